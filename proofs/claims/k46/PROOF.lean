import PyProof.Rows.All
import Wide.All
import OpenK.AllK
import Wide.FinOn
import HandS.ForMost
import HandS.IsInst
import HandS.TupLe
import PyProof.ReprLen
import KE.KExcLine
import HandS.Exc
import HandS.ExcOwn
import HandS.WordsExc
import KE.KExcIs
import HandS.TryOnly
import HandS.Nested
import KE.KSuper
import HandS.DictComp
import HandS.Walk
import HandS.Codes
import HandS.Style
import HandS.SetFor
import HandS.More
import HandS.Comp
import HandS.Flow
import HandS.Remove
import HandS.ExcInit
import HandS.HotCalls
import HandS.Deep
import HandS.Head0
import HandS.Head1
import HandS.Head2
import HandS.HeadHook1
import HandS.HeadHook2
import KE.RegKSuper
import PySem.Challenge.RW_makeskept_k46_boxed_makes_let_go
set_option Elab.async false
set_option linter.all false
set_option maxRecDepth 100000
set_option maxHeartbeats 4000000
/-! A promise of a def that is kept where nothing is being shown (no repr under way), and repr of data under it. -/
namespace Gd
open PySem PySem.Spec PyProof.Rows L2

/-- as FnOk, asked only where no repr is under way -/
structure FnG (P : Program) (w : World) (K : PySem.W.Frag) (mg : Str → Option Value) (base : Heap)
    (CX : CXT) (k : Nat) (f : Addr) (fd : FuncData) (ps : List Str) (sp : Sp) : Prop where
  arity : ∀ vs H Q E, sp vs H Q E → vs.length = ps.length
  go : ∀ (A : Around) (outer : List Env) (s : Shared) (H : Hp) (args : Args) (us : List Value) (vs : List V)
    (Q : VK) (E : XK), A.guards = some [] → Room k A → Env0 P w K mg base A outer s H →
    BindsTo s fd args (ps.zip us) → Vals vs us → sp vs H Q E →
    codeAny (model P w) A (.call (.ref f) args) (CR CX outer P w H s Q E) s

section
variable {P : Program} {w : World} {K : PySem.W.Frag} {mg : Str → Option Value} {base : Heap}
theorem FnG.low {CX : CXT} {j k : Nat} {f : Addr} {fd : FuncData} {ps : List Str} {sp : Sp}
    (F : FnG P w K mg base CX j f fd ps sp) (h : j ≤ k) : FnG P w K mg base CX k f fd ps sp :=
  ⟨F.arity, fun A o s H ar us vs Q E g r => F.go A o s H ar us vs Q E g (r.mono h)⟩
theorem FnG.ofOk {CX : CXT} {k : Nat} {f : Addr} {fd : FuncData} {ps : List Str} {sp : Sp}
    (F : FnOk P w K mg base CX k f fd ps sp) : FnG P w K mg base CX k f fd ps sp :=
  ⟨F.len, fun A o s H ar us vs Q E _ r => F.run A o s H ar us vs Q E r⟩

/-- the rule for a def, told that no repr is under way -/
theorem fnG_of {CX : CXT} {k : Nat} {f : Addr} {name qual : Str} {params : Arguments} {body : List Stmt}
    {scope : Scope} {dV kV doc pm cdv ct oc : Value} {an od : Option Addr} {osl : Array (Option Value)}
    {N ps : List Str} {sp : Sp}
    (lk : K.lookup f = some ⟨oc, od, .func (PySem.W.fnOf name qual params body scope dV kV doc pm an cdv ct), osl⟩)
    (cin : PySem.W.codeIn K cdv qual = true) (S : FnScope N ps scope)
    (ar : ∀ vs H Q E, sp vs H Q E → vs.length = ps.length)
    (bd : ∀ (A : Around) (outer : List Env) (s : Shared) (H : Hp) (vs : List V) (Q : VK) (E : XK),
      A.guards = some [] → Room k (A.deeper (envOfC qual scope s.heap.objs.size f cdv)) → sp vs H Q E →
      ∃ t, PSs (cxOf CX P w K mg base N qual scope f cdv A outer s H E) body t ∧
        t { nx := fun _ H' => Q .non H', rt := Q } (start N vs) H) :
    FnG P w K mg base CX (k + 1) f (PySem.W.fnOf name qual params body scope dV kV doc pm an cdv ct) ps sp := by
  constructor
  · exact ar
  intro A outer s H args us vs Q E hG room env bind rel prem
  have long := ar _ _ _ _ prem
  have kin : K.In s.heap := env.mod.kin.keeps fun b o z => (env.bs b o z).1
  have nl : s.heap.NoLimit := env.mod.nolimit.keeps fun b o z => (env.bs b o z).1
  have kinds : ∀ y ∈ ps.zip us, scope.names.lookup y.1 = some .local ∨
      (scope.names.lookup y.1 = some .cell ∧
        ((cellsFrom (s.heap.objs.size + 1) scope.names []).lookup y.1).isSome = true) := by
    rintro ⟨n, v⟩ hy
    cases S.par n (List.of_mem_zip hy).1 with
    | inl q => exact .inl q
    | inr q => exact .inr ⟨q, PySem.W.cellsFrom_some _ _ _ (.inl q)⟩
  apply codeAny_call_function room.depth (kin _ _ lk) rfl S.co S.gen rfl (PySem.W.codeRec_of kin cin)
  apply bind
  apply wpAny_newFunctionEnv_cells S.kind kinds
  intro en hen s1 x
  subst hen
  refine ⟨nl.keeps x.toInCall.keep, ?_⟩
  apply codeAny_func
  obtain ⟨t, der, rd⟩ := bd A outer s H vs Q E hG (room.deeper _) prem
  have J := inv_start (CX := CX) (E := E) (mg := mg) S room.hd env long rel x
  apply wpAny_mono (der.run [] s1 (start N vs) H _ J rd)
  · intro fl s' hs
    cases fl with
    | ret u =>
      obtain ⟨v, _, H', J', rv, q⟩ := hs
      exact ⟨v, H', J'.os, J'.bare, J'.base, J'.hok, rv, q⟩
    | next =>
      obtain ⟨_, H', J', q⟩ := hs
      exact ⟨.non, H', J'.os, J'.bare, J'.base, J'.hok, rfl, q⟩
    | brk =>
      obtain ⟨_, _, _, q⟩ := hs
      exact q.elim
    | cont =>
      obtain ⟨_, _, _, q⟩ := hs
      exact q.elim
  · intro e s' hs
    exact hs
theorem okG {x qual : Str} {st : Stmt} {f : Addr} {fd : FuncData} {N ps : List Str} {k : Nat} {sp : Sp}
    (F : Fun K x qual st f fd) (S : FnScope N ps (defScope st))
    (ar : ∀ vs H Q E, sp vs H Q E → vs.length = ps.length)
    (bd : ∀ (cdv : Value) (A : Around) (outer : List Env) (s : Shared) (H : Hp) (vs : List V) (Q : VK) (E : XK),
      A.guards = some [] → Room k (A.deeper (envOfC qual (defScope st) s.heap.objs.size f cdv)) → sp vs H Q E →
      ∃ t, PSs (cxOf CX0 P w K mg base N qual (defScope st) f cdv A outer s H E).nox (defBody st) t ∧
        t { nx := fun _ H' => Q .non H', rt := Q } (start N vs) H) :
    FnG P w K mg base CX0 (k + 1) f fd ps sp := by
  obtain ⟨oc, od, kV, doc, pm, an, cdv, ct, osl, rfl, lk, cin⟩ := F.ex
  apply fnG_of lk cin S ar
  intro A outer s H vs Q E hG room prem
  obtain ⟨t, der, rd⟩ := bd cdv A outer s H vs Q E hG room prem
  exact ⟨t, der.nox, rd⟩
end

section
variable {X : Cx} {CX : CXT} {k : Nat} {f : Addr} {fd : FuncData} {ps : List Str} {sp : Sp} {dvs : List V}
  {ds : List Value} {E : XK} {x : Str} {p pos : Pos} {e : Expr} {es : List Expr} {t : TA}
theorem enterG {pins : List (Addr × Obj)} {σ : L2.St} {H : Hp} {s : Shared} {Q : VK} {us : List Value} {vs : List V}
    (F : FnG X.prog X.w X.K X.mg X.base CX k f fd ps sp) (hG : X.A.guards = some []) (hr : Room k X.A)
    (hb : Binds X.K fd ps ds) (hd : Vals dvs ds) (hx : Passes CX X E) (J : Inv X pins σ H s) (rel : Vals vs us)
    (prem : sp (vs ++ dvs) H Q E) :
    wpAny (model X.prog X.w) X.A (call (.ref f) us) (EP X pins σ Q) X.xe s := by
  have rel2 : Vals (vs ++ dvs) (us ++ ds) := rel.append hd
  have long : (us ++ ds).length = ps.length := rel2.length ▸ F.arity _ _ _ _ prem
  apply wpAny_call
  apply codeAny_mono (F.go X.A X.stack s H ⟨us, []⟩ (us ++ ds) (vs ++ dvs) Q E hG hr J.env0 (hb s us J.kIn long)
    rel2 prem)
  intro r s' hq
  match r, hq with
  | .error _, hq => exact hx pins σ H s _ s' J hq
  | .ok (.ret _), hq => exact J.after hq
  | .ok .next, hq => exact hq.elim
  | .ok .brk, hq => exact hq.elim
  | .ok .cont, hq => exact hq.elim
/-- f(e, ..) of a def that keeps its promise where no repr is under way -/
theorem pe_callG (F : FnG X.prog X.w X.K X.mg X.base CX k f fd ps sp) (hG : X.A.guards = some []) (hr : Room k X.A)
    (hg : Gl X x) (hm : X.mg x = some (.ref f)) (hk : PySem.W.keepIn X.K (.ref f) = true) (hb : Binds X.K fd ps ds)
    (hd : Vals dvs ds) (hx : Passes CX X E) (ha : PA X (e :: es) t)
    (hdb : (x == ("__debug__" : Str)) = false := by decide)
    (he : starEach (e :: es) X.env = (false, eval e X.env) :: starEach es X.env := by rfl)
    (hpl : (backTo pos (starEach es X.env)).any (·.1) = false := by rfl) :
    PE X (.Call (.Name x p) (e :: es) [] pos) (tCall sp dvs E t) := by
  constructor
  intro pins s σ H Q J prem
  have arg := ha.run pos pins s σ H _ J prem
  apply wpAny_Call_Name_kw
  apply ld_glob J hg hm (hd := hdb)
  apply PySem.W.callWith_K (h₀ := X.base) J.ok.mod.kin hk (he := he) (hplain := hpl)
  apply thn arg
  rintro us s1 ⟨vs, H1, J1, rel, q⟩
  exact ⟨J1.kIn, enterG F hG hr hb hd hx J1 rel q⟩
end
end Gd
namespace Gd
open PySem PySem.Spec PyProof.Rows L2
section
variable {P : Program} {w : World} {K : PySem.W.Frag} {mg mb : Str → Option Value} {CX : CXT} {k : Nat} {fa a : Addr}
  {fd : FuncData} {x : Str} {sp : Sp} {s₁ : Shared} {vs : List Value} {ns : List Int}
/-- the law's call from one abstract heap that tracks at most the script -/
theorem callOne (kin : K.In s₁.heap) (gl : s₁.heap.Ns mainGlobals mg) (bl : s₁.heap.Ns builtinsNs mb)
    (bb : ∀ x : Str, x ≠ "__name__" → mb x = bootBuiltins x) (nl : s₁.heap.NoLimit) (gn : s₁.gens = #[])
    (at_ : s₁.heap.get? a = some { cls := .type "list", data := .seq vs.toArray }) (room : Room k callerA)
    (F : ∀ base : Heap, K.In base → base.Ns mainGlobals mg → FnG P w K mg base CX k fa fd [x] sp)
    (bind : ∀ (s : Shared) (u : Value), BindsTo s fd ⟨[u], []⟩ [(x, u)])
    (H : Hp) (only : Only H) (prem : sp [.ref a] H (fun v _ => v = .bl true) fun _ _ _ => False)
    (noX : ∀ e s', CX [] H s₁ (fun _ _ _ => False) e s' → False)
    (hok : HOk P w H s₁.heap) (here : ∀ b, H b ≠ none → b = a) (out : H a ≠ none → K.lookup a = none) :
    codeAny (model P w) callerA (.call (.ref fa) ⟨[.ref a], []⟩)
      (fun r s' => r = .ok (.ret (.bool true)) ∧ OldK s₁.heap s'.heap ∧ s'.os = s₁.os ∧ AllBare s'.gens) s₁ := by
  have free : ∀ {b : Addr} {o : Obj} {es : Array DictEntry} {ep : Nat},
      s₁.heap.get? b = some o → o.data = .dict es ep → H b = none := by
    intro b o es ep z dd
    refine Classical.byContradiction fun q => ?_
    have hb := here b q
    rw [hb, at_] at z
    injection z with z
    rw [← z] at dd
    injection dd
  have nsOf : ∀ {b : Addr} {m : Str → Option Value}, s₁.heap.Ns b m → (hidT s₁.heap H).Ns b m := by
    rintro b m ⟨o, es, ep, z, dd, r⟩
    exact ⟨o, es, ep, hidT_get z (free z dd), dd, r⟩
  have kinB : K.In (hidT s₁.heap H) := by
    intro b o z
    refine hidT_get (kin b o z) (Classical.byContradiction fun q => ?_)
    have hb := here b q
    rw [hb] at z q
    rw [out q] at z
    injection z
  have modB : Mod K mg (hidT s₁.heap H) := by
    obtain ⟨mc, l1, l2⟩ := nl
    exact ⟨kinB, nsOf gl, ⟨mb, nsOf bl, bb⟩, ⟨mc, nsOf l1, l2⟩⟩
  have env : Env0 P w K mg (hidT s₁.heap H) callerA [] s₁ H := by
    refine ⟨rfl, modB, fun b o z => of_hidT z, Nat.le_of_eq (hidT_size _ _), trivial, ?_, hok, .of_eq gn⟩
    intro b hb
    exact absurd (show b ∈ ([] : List Addr) from hb) List.not_mem_nil
  have ran := (F _ kinB (nsOf gl)).go callerA [] s₁ H ⟨[.ref a], []⟩ [.ref a] [.ref a] _ _ rfl room env
    (bind s₁ (.ref a)) (.cons rfl .nil) prem
  apply codeAny_mono ran
  intro r s' q
  match r, q with
  | .error _, q => exact (noX _ _ q).elim
  | .ok .next, q => exact q.elim
  | .ok .brk, q => exact q.elim
  | .ok .cont, q => exact q.elim
  | .ok (.ret u), q =>
    obtain ⟨v, H', os, bare, un, hok', rv, ev⟩ := q
    have ev' : v = .bl true := ev
    subst ev'
    have hu : u = Value.bool true := rv
    subst hu
    refine ⟨rfl, ?_, os, bare⟩
    apply OldK.of_keep
    intro b o z
    have nob : b ∉ ([] : List Addr) := List.not_mem_nil
    cases q : H b with
    | none => exact un.keep b o z q nob nob
    | some u =>
      cases only b with
      | inl z0 =>
        rw [q] at z0
        injection z0
      | inr z0 =>
        obtain ⟨ob, xs, z1⟩ := z0
        have y1 := (hok b _ z1).1
        have y2 := (hok' b _ (un.frzs b ob _ z1)).1
        rw [z] at y1
        injection y1 with y1
        rw [y1]
        exact y2
theorem callG (kin : K.In s₁.heap) (gl : s₁.heap.Ns mainGlobals mg) (bl : s₁.heap.Ns builtinsNs mb)
    (bb : ∀ x : Str, x ≠ "__name__" → mb x = bootBuiltins x) (nl : s₁.heap.NoLimit) (gn : s₁.gens = #[])
    (at_ : s₁.heap.get? a = some { cls := .type "list", data := .seq vs.toArray }) (hin : IntsAre vs ns)
    (short : ns.length ≤ sizeLine) (room : Room k callerA)
    (F : ∀ base : Heap, K.In base → base.Ns mainGlobals mg → FnG P w K mg base CX k fa fd [x] sp)
    (bind : ∀ (s : Shared) (u : Value), BindsTo s fd ⟨[u], []⟩ [(x, u)])
    (prem : ∀ H : Hp, Only H → SqL K H a (ns.map V.int) → sp [.ref a] H (fun v _ => v = .bl true) fun _ _ _ => False)
    (noX : ∀ H e s', CX [] H s₁ (fun _ _ _ => False) e s' → False) :
    codeAny (model P w) callerA (.call (.ref fa) ⟨[.ref a], []⟩)
      (fun r s' => r = .ok (.ret (.bool true)) ∧ OldK s₁.heap s'.heap ∧ s'.os = s₁.os ∧ AllBare s'.gens) s₁ := by
  have rv := vals_ints hin
  have lens := hin.length
  cases hk : K.lookup a with
  | some o =>
    have z := kin a o hk
    rw [at_] at z
    injection z with z
    subst z
    have only : Only (fun _ => none) := fun _ => .inl rfl
    refine callOne kin gl bl bb nl gn at_ room F bind (fun _ => none) only (prem _ only ?_) (noX _)
      (fun b u z => ?_) (fun b z => absurd rfl z) fun z => absurd rfl z
    · refine .inr ⟨_, vs.toArray, _, hk, rfl, rfl, rfl, ?_, ?_⟩
      · rw [List.size_toArray, lens]
        exact short
      · simpa using rv
    · have z' : (none : Option HO) = some u := z
      injection z'
  | none =>
    let T : HO := .frz { cls := .type "list", data := .seq vs.toArray } (.lst (ns.map V.int))
    have only : Only (fun b => if b = a then some T else none) := fun b => by
      by_cases hb : b = a
      · exact .inr ⟨_, _, if_pos hb⟩
      · exact .inl (if_neg hb)
    refine callOne kin gl bl bb nl gn at_ room F bind (fun b => if b = a then some T else none) only
      (prem _ only (.inl (.inr ⟨{ cls := .type "list", data := .seq vs.toArray }, if_pos rfl⟩))) (noX _)
      (fun b u z => ?_) (fun b z => ?_) fun _ => hk
    · by_cases hb : b = a
      · have z' : some T = some u := (if_pos hb).symm.trans z
        injection z' with z'
        subst z'
        subst hb
        refine ⟨at_, ?_, vs, _, rv, at_⟩
        rw [List.length_map]
        exact short
      · have z' : (none : Option HO) = some u := (if_neg hb).symm.trans z
        injection z'
    · refine Classical.byContradiction fun hb => z (if_neg hb)
end
/-- the goal that k_head leaves, from the law's promise under FnG -/
theorem walkG {l : PySem.W.OpenLaw} {n k : Nat} {q : Program} {loose : List Str} {XP : (Str → Option Value) → Heap → Prop}
    {YP : World → Heap → Prop} {d : DefRec} {K : Params → PySem.W.Frag} {CX : World → CXT} {sp : World → Sp} {x : Str}
    (most : l.most = some n) (line : n ≤ sizeLine) (nod : d.params.defaults = []) (room : Room k callerA)
    (kin : ∀ (w : World) (h : Heap), YP w h → (K w.params).In h)
    (F : ∀ (w : World) (mg : Str → Option Value) (fa : Addr) (h : Heap),
      (K w.params).In h → h.Ns mainGlobals mg → mg d.name = some (.ref fa) →
      ∃ fd : FuncData, (∀ (s : Shared) (u : Value), BindsTo s fd ⟨[u], []⟩ [(x, u)]) ∧
        ∀ base : Heap, (K w.params).In base → base.Ns mainGlobals mg →
          FnG l.prog w (K w.params) mg base (CX w) k fa fd [x] (sp w))
    (prem : ∀ (w : World) (H : Hp) (a : Addr) (ns : List Int), ns.length ≤ n → Only H →
      SqL (K w.params) H a (ns.map V.int) → sp w [.ref a] H (fun v _ => v = .bl true) fun _ _ _ => False)
    (noX : ∀ (w : World) (H : Hp) (s : Shared) (e : Value) (s' : Shared),
      CX w [] H s (fun _ _ _ => False) e s' → False) :
    PySem.W.WalkO q loose XP YP l.row.toRowW d [] (fun f vs => PySem.call f vs) := by
  apply Att.attach_call most nod
  intro w s₀ s₁ mg mb fa o pm cd doc a vs ns G Y ho hd hcd hmg hobj hints hlen hg
  have kx := kin w _ Y
  obtain ⟨fd, hb, hF⟩ := F w mg fa _ kx G.T.g hmg
  refine callG kx G.T.g G.T.b G.T.builtins G.T.nolimit hg hobj hints (Nat.le_trans hlen line) room hF hb ?_ ?_
  · intro H hO hS
    exact prem w H a ns hlen hO hS
  · intro H e s'
    exact noX w H s₁ e s'
end Gd
namespace Gd
open PySem PySem.Spec PyProof.Rows L2
/-- plain data, or an empty dict -/
inductive D1 (K : PySem.W.Frag) (H : Hp) : V → PyData → Prop
  | dp {v : V} {d : PyData} (h : Dp K H v d) : D1 K H v d
  | emp {a : Addr} (h : H a = some (.dK [])) : D1 K H (.ref a) (.dict [])
inductive D1s (K : PySem.W.Frag) (H : Hp) : List V → List PyData → Prop
  | nil : D1s K H [] []
  | cons {v : V} {vs : List V} {d : PyData} {ds : List PyData} : D1 K H v d → D1s K H vs ds → D1s K H (v :: vs) (d :: ds)
/-- such, or a list or a tuple of such -/
inductive D2 (K : PySem.W.Frag) (H : Hp) : V → PyData → Prop
  | d1 {v : V} {d : PyData} (h : D1 K H v d) : D2 K H v d
  | lst {a : Addr} {xs : List V} {ds : List PyData} : SqL K H a xs → D1s K H xs ds → D2 K H (.ref a) (.list ds)
  | tup {a : Addr} {xs : List V} {ds : List PyData} : SqT K H a xs → D1s K H xs ds → D2 K H (.ref a) (.tuple ds)

mutual
theorem noDict {K : PySem.W.Frag} {H : Hp} : ∀ {v : V} {d : PyData}, Dp K H v d → d.hasDict = false
  | _, _, .non => by simp only [PyData.hasDict]
  | _, _, .bl _ => by simp only [PyData.hasDict]
  | _, _, .int _ => by simp only [PyData.hasDict]
  | _, _, .str _ => by simp only [PyData.hasDict]
  | _, _, .lst _ ha => by
    simp only [PyData.hasDict]
    exact noDicts ha
  | _, _, .tup _ ha => by
    simp only [PyData.hasDict]
    exact noDicts ha
theorem noDicts {K : PySem.W.Frag} {H : Hp} : ∀ {vs : List V} {ds : List PyData}, DpAll K H vs ds → PyData.hasDictAll ds = false
  | _, _, .nil => by simp only [PyData.hasDictAll]
  | _, _, .cons h1 h2 => by simp only [PyData.hasDictAll, noDict h1, noDicts h2, Bool.or_self]
end

section
variable {X : Cx} {pins : List (Addr × Obj)} {σ : L2.St} {H : Hp} {s : Shared}
theorem D1.rd (I : Inv X pins σ H s) {v : V} {d : PyData} {u : Value} (h : D1 X.K H v d) (r : RelV v u) :
    ∃ as, Reads s.heap u d as ∧ (d.hasDict = true → sysModules ∉ as) := by
  cases h with
  | dp h =>
    obtain ⟨as, q⟩ := Dp.reads I d v u h r
    exact ⟨as, q, PyData.noDict_hsm (noDict h)⟩
  | @emp a h =>
    cases (show u = Value.ref a from r)
    obtain ⟨_, hs, vs, kv, o, es, ep, q⟩ := (show ObjOk X.prog X.w H s.heap a (.dK []) from I.hok a _ h)
    cases kv
    obtain ⟨e1, e2, e3, e4⟩ := q
    have e5 : es.toList = [] := by
      have e6 := e4.2.1
      generalize es.toList = l at e6 ⊢
      cases e6
      rfl
    refine ⟨_, Reads.dict (kvs := []) (as := []) (bs := []) e1 e2.1 e3 ?_ ?_, fun _ => ?_⟩
    · rw [e5]
      exact .nil
    · rw [e5]
      exact .nil
    · intro z
      have z' : sysModules = a := by simpa using z
      rw [← z'] at hs
      simp at hs
theorem D1s.rd (I : Inv X pins σ H s) : ∀ {vs : List V} {ds : List PyData} {us : List Value}, D1s X.K H vs ds → Vals vs us →
    ∃ as, ReadsAll s.heap us ds as
  | _, _, _, .nil, .nil => ⟨_, .nil⟩
  | _, _, _, .cons h1 h2, .cons r1 r2 => by
    obtain ⟨as, q1, _⟩ := h1.rd I r1
    obtain ⟨bs, q2⟩ := D1s.rd I h2 r2
    exact ⟨_, .cons q1 q2⟩
theorem D1.one (I : Inv X pins σ H s) {v : V} {d : PyData} {u : Value} (h : D1 X.K H v d) (r : RelV v u)
    (hs : d.showable = true) (hz : d.shown.length ≤ sizeLine) :
    ∃ bs, ReadAtMost s.heap d.depth bs ∧ ReprK X.prog X.w bs s.heap d.depth u d.shown := by
  obtain ⟨as, q, hm⟩ := h.rd I r
  exact ReprK.of_reads q hs hm hz
theorem D1s.each (I : Inv X pins σ H s) {n : Nat} : ∀ {vs : List V} {ds : List PyData} {us : List Value}, D1s X.K H vs ds → Vals vs us →
    PyData.showableAll ds = true → (∀ t ∈ PyData.shownAll ds, t.length ≤ sizeLine) → PyData.depthAll ds ≤ n →
    ∃ bs, ReadAtMost s.heap n bs ∧ ReprAllK X.prog X.w bs s.heap n us (PyData.shownAll ds)
  | _, _, _, .nil, .nil, _, _, _ => ⟨[], (fun _ z => nomatch z), by simp only [PyData.shownAll]; exact .nil⟩
  | _, _, _, .cons (d := d) (ds := ds) h1 h2, .cons r1 r2, hs, hz, hn => by
    have hs' : d.showable = true ∧ PyData.showableAll ds = true := by simpa [PyData.showableAll] using hs
    simp only [PyData.depthAll] at hn
    simp only [PyData.shownAll] at hz ⊢
    obtain ⟨b1, m1, k1⟩ := h1.one I r1 hs'.1 (hz _ List.mem_cons_self)
    obtain ⟨b2, m2, k2⟩ := D1s.each I h2 r2 hs'.2 (fun t ht => hz t (List.mem_cons_of_mem _ ht)) (by omega : PyData.depthAll ds ≤ n)
    refine ⟨b1 ++ b2, (m1.mono (by omega)).append m2, .cons ((k1.more fun b hb => List.mem_append_left _ hb).level_le (by omega)) (k2.more_le (fun b hb => List.mem_append_right _ hb) (Nat.le_refl _))⟩
end

/-- repr of such data where no repr is under way -/
def rRepr (K : PySem.W.Frag) : List V → Hp → VK → Prop := fun xs H Q => ∃ v d, xs = [v] ∧ D2 K H v d ∧ d.showable = true ∧
  d.shown.length ≤ sizeLine ∧ d.depth ≤ 60 ∧ Q (.str d.shown) H
section
variable {X : Cx}
theorem call_repr (hG : X.A.guards = some []) (hu : X.A.units + 64 < cLine) : CallR X (.builtin "repr") (rRepr X.K) := by
  intro pins s σ H xs us Q I rel h
  obtain ⟨v, d, rfl, hd, hs, hz, hdep, q⟩ := h
  obtain ⟨u, rfl, r⟩ := vals1 rel
  cases hd with
  | d1 h1 =>
    cases h1 with
    | dp hp =>
      cases hp with
      | non =>
        cases (show u = Value.none from r)
        simp only [PyData.shown] at q
        exact PySem.P.repr_of_none ⟨.str _, H, I.tok _, ⟨_, rfl⟩, q⟩
      | bl b =>
        cases (show u = Value.bool b from r)
        simp only [PyData.shown] at q
        exact PySem.P.repr_of_bool ⟨.str _, H, I.tok _, ⟨_, rfl⟩, q⟩
      | int i =>
        obtain ⟨t, rfl⟩ := (show ∃ t, u = Value.int i t from r)
        simp only [PyData.shown] at q
        exact PySem.P.repr_of_int (by simpa [PyData.showable] using hs) ⟨.str _, H, I.tok _, ⟨_, rfl⟩, q⟩
      | str x =>
        obtain ⟨t, rfl⟩ := (show ∃ t, u = Value.str x t from r)
        simp only [PyData.shown] at q hz
        exact PySem.P.repr_of_str ⟨.str _, H, I.tok _, ⟨_, rfl⟩, q⟩ hz
      | @lst a ys ds hl ha =>
        cases (show u = Value.ref a from r)
        obtain ⟨as, rd, hm⟩ := (D1.dp (.lst hl ha) : D1 X.K H (.ref a) (.list ds)).rd I rfl
        exact repr_of_reads' rd hs hm hG (by omega) (fun _ _ z => z) (fun h' u tk hk => ⟨.str _, H, I.kept hk, ⟨_, rfl⟩, q⟩) hz
      | @tup a ys ds hl ha =>
        cases (show u = Value.ref a from r)
        obtain ⟨as, rd, hm⟩ := (D1.dp (.tup hl ha) : D1 X.K H (.ref a) (.tuple ds)).rd I rfl
        exact repr_of_reads' rd hs hm hG (by omega) (fun _ _ z => z) (fun h' u tk hk => ⟨.str _, H, I.kept hk, ⟨_, rfl⟩, q⟩) hz
    | @emp a ha =>
      cases (show u = Value.ref a from r)
      obtain ⟨as, rd, hm⟩ := (D1.emp ha : D1 X.K H (.ref a) (.dict [])).rd I rfl
      exact repr_of_reads' rd hs hm hG (by omega) (fun _ _ z => z) (fun h' u tk hk => ⟨.str _, H, I.kept hk, ⟨_, rfl⟩, q⟩) hz
  | @lst a ys ds hl ha =>
    cases (show u = Value.ref a from r)
    obtain ⟨its, rv, ⟨o, n, ho, hc, _, ho2⟩, _⟩ := I.list hl
    obtain ⟨as, rda⟩ := ha.rd I rv
    have hz' : (listText (PyData.shownAll ds)).length ≤ sizeLine := by simpa only [PyData.shown] using hz
    simp only [PyData.depth] at hdep
    obtain ⟨bs, hb, hk⟩ := ha.each I rv (by simpa [PyData.showable] using hs) (fun t ht => Nat.le_trans (listText_mem_le ht) hz') (Nat.le_refl _)
    have hna : a ∉ bs := not_mem_of_deeper (.list ho hc ho2 rda) (by simp only [PyData.depth]; omega) hb
    simp only [PyData.shown] at q
    have ty : s.TypeIs (.ref a) "list" := ⟨o, ho, hc⟩
    have fin : ∀ h' u tk, (∀ b o, s.heap.get? b = some o → h'.get? b = some o) →
        EP X pins σ Q (.str (listText (PyData.shownAll ds)) u) { s with heap := h', toks := tk } :=
      fun h' u tk hk => ⟨.str _, H, I.kept hk, ⟨_, rfl⟩, q⟩
    refine call_repr_slot (by omega) ty PySem.F.slot_list_repr.toG ?_
    cases its with
    | nil =>
      cases rda
      simp only [PyData.shownAll, listText_nil] at fin
      exact call_list_repr_empty ty ho ho2 ⟨_, _, rfl, fin s.heap _ _ fun _ _ e => e⟩
    | cons x l =>
      exact call_list_reprK ho hc ho2 hna (by simpa using hk.length_eq) (fun i y e => hk.item i y (by simpa using e)) hG
        (fun b _ => Clear.nil b) (by show X.A.units + 1 + (_ + 1) < cLine; omega) (fun _ _ z => z) (fun h' u tk hk => ⟨_, _, rfl, fin h' u tk hk⟩) hz'
  | @tup a ys ds hl ha =>
    cases (show u = Value.ref a from r)
    obtain ⟨its, rv, ⟨o, ho, hc, n, ho2⟩, _⟩ := I.tuple hl
    obtain ⟨as, rda⟩ := ha.rd I rv
    have hz' : (tupleText (PyData.shownAll ds)).length ≤ sizeLine := by simpa only [PyData.shown] using hz
    simp only [PyData.depth] at hdep
    obtain ⟨bs, hb, hk⟩ := ha.each I rv (by simpa [PyData.showable] using hs) (fun t ht => Nat.le_trans (tupleText_mem_le ht) hz') (Nat.le_refl _)
    have hna : a ∉ bs := not_mem_of_deeper (.tuple ho hc ho2 rda) (by simp only [PyData.depth]; omega) hb
    simp only [PyData.shown] at q
    have ty : s.TypeIs (.ref a) "tuple" := ⟨o, ho, hc⟩
    refine call_repr_slot (by omega) ty PySem.F.slot_tuple_repr ?_
    exact call_tuple_reprK ho hc ho2 hna (by simpa using hk) hG (fun b _ => Clear.nil b) (by show X.A.units + 1 + (_ + 1) < cLine; omega) (fun _ _ z => z)
      (fun h' u tk hk => ⟨_, _, rfl, ⟨.str _, H, I.kept hk, ⟨_, rfl⟩, q⟩⟩) hz'
end
end Gd
namespace Gd
open PySem PySem.Spec PyProof.Rows L2
/-- a def of the top, with its name -/
structure DefAt (K : PySem.W.Frag) (mg : Str → Option Value) (x : Str) (st : Stmt) (ps : List Str) : Prop where
  ex : ∃ (f : Addr) (fd : FuncData), Fun K x x st f fd ∧ mg x = some (.ref f) ∧ Binds K fd ps []
/-- a def by its name, its promise kept where no repr is under way -/
structure CalG (P : Program) (w : World) (K : PySem.W.Frag) (mg : Str → Option Value) (base : Heap) (k : Nat) (x : Str) (sp : Sp) : Prop where
  ex : ∃ (f : Addr) (fd : FuncData) (ps : List Str), FnG P w K mg base CX0 k f fd ps sp ∧ mg x = some (.ref f) ∧
    PySem.W.keepIn K (.ref f) = true ∧ Binds K fd ps []
section
variable {P : Program} {w : World} {K : PySem.W.Frag} {mg : Str → Option Value} {base : Heap}
theorem DefAt.cal {x : Str} {st : Stmt} {N ps : List Str} {k : Nat} {sp : Sp} (D : DefAt K mg x st ps) (S : FnScope N ps (defScope st))
    (ar : ∀ vs H Q E, sp vs H Q E → vs.length = ps.length)
    (bd : ∀ (f : Addr) (cdv : Value) (A : Around) (outer : List Env) (s : Shared) (H : Hp) (vs : List V) (Q : VK) (E : XK),
      A.guards = some [] → Room k (A.deeper (envOfC x (defScope st) s.heap.objs.size f cdv)) → sp vs H Q E →
      ∃ t, PSs (cxOf CX0 P w K mg base N x (defScope st) f cdv A outer s H E).nox (defBody st) t ∧
        t { nx := fun _ H' => Q .non H', rt := Q } (start N vs) H) : CalG P w K mg base (k + 1) x sp := by
  obtain ⟨f, fd, F, m, b⟩ := D.ex
  exact ⟨f, fd, ps, okG F S ar (bd f), m, F.kp, b⟩
theorem DefAt.mk' {X : K.In base} {x : Str} {st : Stmt} {ps : List Str} {f : Addr} {oc : Value} {od an : Option Addr} {osl : Array (Option Value)} {kV doc pm cdv ct : Value}
    (m : mg x = some (.ref f))
    (l : K.lookup f = some ⟨oc, od, .func (PySem.W.fnOf x x (defArgs st) (defBody st) (defScope st) .none kV doc pm an cdv ct), osl⟩)
    (c : PySem.W.codeIn K cdv x = true) (k : PySem.W.keepIn K (.ref f) = true)
    (b : ∀ (kV doc pm : Value) (an : Option Addr) (cdv ct : Value) (us : List Value), us.length = ps.length →
      bindArgs (PySem.W.fnOf x x (defArgs st) (defBody st) (defScope st) .none kV doc pm an cdv ct) ⟨us, []⟩ = pure (ps.zip us)) :
    DefAt K mg x st ps := by
  have F := fun_mk (st := st) l c k
  exact ⟨f, _, F, m, F.binds b⟩
end
section
variable {X : Cx} {k : Nat} {sp : Sp} {x : Str} {p pos : Pos} {e : Expr} {es : List Expr} {t : TA}
theorem pe_g (c : CalG X.prog X.w X.K X.mg X.base k x sp) (hG : X.A.guards = some []) (hr : Room k X.A) (hg : Gl X x)
    (ha : PA X (e :: es) t) (hdb : (x == ("__debug__" : Str)) = false := by decide)
    (he : starEach (e :: es) X.env = (false, eval e X.env) :: starEach es X.env := by rfl)
    (hpl : (backTo pos (starEach es X.env)).any (·.1) = false := by rfl) :
    PE X (.Call (.Name x p) (e :: es) [] pos) (tCall sp [] E0 t) := by
  obtain ⟨f, fd, ps, F, m, kp, b⟩ := c.ex
  exact pe_callG F hG hr hg m kp b .nil pass0 ha hdb he hpl
/-- a module's constant, a whole number -/
def GInt (mg : Str → Option Value) (x : Str) (n : Int) : Prop := ∃ t, mg x = some (.int n t)
theorem pe_gi {n : Int} (hg : Gl X x) (h : GInt X.mg x n) (hd : (x == ("__debug__" : Str)) = false := by decide) : PE X (.Name x pos) (tC (.int n)) := by
  obtain ⟨t, h⟩ := h
  exact pe_glob hg h ⟨t, rfl⟩ hd
/-- a module's constant, a text -/
def GStr (mg : Str → Option Value) (x : Str) (z : Str) : Prop := ∃ t, mg x = some (.str z t)
theorem pe_gs {z : Str} (hg : Gl X x) (h : GStr X.mg x z) (hd : (x == ("__debug__" : Str)) = false := by decide) : PE X (.Name x pos) (tC (.str z)) := by
  obtain ⟨t, h⟩ := h
  exact pe_glob hg h ⟨t, rfl⟩ hd
theorem hu64 {A : Around} (hr : Room k A) : A.units + 64 < cLine := by
  have := hr.un
  omega
/-- x is True, x is False, for any x -/
def isB (x : V) (b : Bool) : Bool := match x with
  | .bl a => a == b
  | _ => false
theorem op_isB : OpR X (compareOp .Is) (fun x y H Q => ∃ b, y = .bl b ∧ Q (.bl (isB x b)) H) := by
  intro pins s σ H x y v u Q I rx ry h
  obtain ⟨b, rfl, q⟩ := h
  cases (show u = Value.bool b from ry)
  cases x with
  | non =>
    cases (show v = Value.none from rx)
    exact wpAny_is_other rfl (fun z => nomatch z) ⟨.bl false, H, I, rfl, q⟩
  | bl a =>
    cases (show v = Value.bool a from rx)
    by_cases e : a = b
    · subst e
      refine wpAny_is_self rfl ⟨.bl true, H, I, rfl, ?_⟩
      simpa [isB] using q
    · refine wpAny_is_other rfl (fun z => e (Value.bool.inj z)) ⟨.bl false, H, I, rfl, ?_⟩
      have e2 : isB (.bl a) b = false := beq_eq_false_iff_ne.mpr e
      rw [e2] at q
      exact q
  | int i =>
    obtain ⟨t, rfl⟩ := (show ∃ t, v = Value.int i t from rx)
    exact wpAny_is_other rfl (fun z => nomatch z) ⟨.bl false, H, I, rfl, q⟩
  | str i =>
    obtain ⟨t, rfl⟩ := (show ∃ t, v = Value.str i t from rx)
    exact wpAny_is_other rfl (fun z => nomatch z) ⟨.bl false, H, I, rfl, q⟩
  | byt i =>
    obtain ⟨t, rfl⟩ := (show ∃ t, v = Value.bytes i t from rx)
    exact wpAny_is_other rfl (fun z => nomatch z) ⟨.bl false, H, I, rfl, q⟩
  | flt i =>
    obtain ⟨t, rfl⟩ := (show ∃ t, v = Value.float i t from rx)
    exact wpAny_is_other rfl (fun z => nomatch z) ⟨.bl false, H, I, rfl, q⟩
  | ref i =>
    cases (show v = Value.ref i from rx)
    exact wpAny_is_other rfl (fun z => nomatch z) ⟨.bl false, H, I, rfl, q⟩
  | ty i =>
    cases (show v = Value.type i from rx)
    exact wpAny_is_other rfl (fun z => nomatch z) ⟨.bl false, H, I, rfl, q⟩
theorem op_isntB : OpR X (compareOp .IsNot) (fun x y H Q => ∃ b, y = .bl b ∧ Q (.bl (!isB x b)) H) := by
  intro pins s σ H x y v u Q I rx ry h
  obtain ⟨b, rfl, q⟩ := h
  cases (show u = Value.bool b from ry)
  cases x with
  | non =>
    cases (show v = Value.none from rx)
    exact wpAny_isNot_other rfl (fun z => nomatch z) ⟨.bl true, H, I, rfl, q⟩
  | bl a =>
    cases (show v = Value.bool a from rx)
    by_cases e : a = b
    · subst e
      refine wpAny_isNot_self rfl ⟨.bl false, H, I, rfl, ?_⟩
      simpa [isB] using q
    · refine wpAny_isNot_other rfl (fun z => e (Value.bool.inj z)) ⟨.bl true, H, I, rfl, ?_⟩
      have e2 : isB (.bl a) b = false := beq_eq_false_iff_ne.mpr e
      rw [e2] at q
      exact q
  | int i =>
    obtain ⟨t, rfl⟩ := (show ∃ t, v = Value.int i t from rx)
    exact wpAny_isNot_other rfl (fun z => nomatch z) ⟨.bl true, H, I, rfl, q⟩
  | str i =>
    obtain ⟨t, rfl⟩ := (show ∃ t, v = Value.str i t from rx)
    exact wpAny_isNot_other rfl (fun z => nomatch z) ⟨.bl true, H, I, rfl, q⟩
  | byt i =>
    obtain ⟨t, rfl⟩ := (show ∃ t, v = Value.bytes i t from rx)
    exact wpAny_isNot_other rfl (fun z => nomatch z) ⟨.bl true, H, I, rfl, q⟩
  | flt i =>
    obtain ⟨t, rfl⟩ := (show ∃ t, v = Value.float i t from rx)
    exact wpAny_isNot_other rfl (fun z => nomatch z) ⟨.bl true, H, I, rfl, q⟩
  | ref i =>
    cases (show v = Value.ref i from rx)
    exact wpAny_isNot_other rfl (fun z => nomatch z) ⟨.bl true, H, I, rfl, q⟩
  | ty i =>
    cases (show v = Value.type i from rx)
    exact wpAny_isNot_other rfl (fun z => nomatch z) ⟨.bl true, H, I, rfl, q⟩
end
/-! names of the built-ins -/
theorem boot_len_ : bootBuiltins "len" = some (.builtin "len") := by decide +kernel
theorem boot_max_ : bootBuiltins "max" = some (.builtin "max") := by decide +kernel
theorem boot_min_ : bootBuiltins "min" = some (.builtin "min") := by decide +kernel
theorem boot_abs_ : bootBuiltins "abs" = some (.builtin "abs") := by decide +kernel
theorem boot_all_ : bootBuiltins "all" = some (.builtin "all") := by decide +kernel
theorem boot_repr_ : bootBuiltins "repr" = some (.builtin "repr") := by decide +kernel
theorem boot_isinstance_ : bootBuiltins "isinstance" = some (.builtin "isinstance") := by decide +kernel
theorem boot_int_ : bootBuiltins "int" = some (.type "int") := by decide +kernel
theorem boot_bool_ : bootBuiltins "bool" = some (.type "bool") := by decide +kernel
theorem boot_str_ : bootBuiltins "str" = some (.type "str") := by decide +kernel
theorem boot_list_ : bootBuiltins "list" = some (.type "list") := by decide +kernel
theorem boot_tuple_ : bootBuiltins "tuple" = some (.type "tuple") := by decide +kernel
theorem boot_dict_ : bootBuiltins "dict" = some (.type "dict") := by decide +kernel

/-! ### the box of a cell: what is drawn of it is any number below the bound -/
def BoxAt (H : Hp) (b : Addr) : Prop := ∃ x y z : Int, 0 ≤ x ∧ 0 ≤ y ∧ y < 2147483629 ∧ H b = some (.lst [.int x, .int y, .int z])
/-- all but the box is kept -/
def Kp (b : Addr) (H H' : Hp) : Prop := ∀ c o, c ≠ b → H c = some o → H' c = some o
theorem Kp.refl {b : Addr} {H : Hp} : Kp b H H := fun _ _ _ z => z
theorem Kp.trans {b : Addr} {H H1 H2 : Hp} (h : Kp b H H1) (k : Kp b H1 H2) : Kp b H H2 := fun c o n z => k c o n (h c o n z)
theorem Kp.upd {b p : Addr} {H H' : Hp} {o : HO} (h : Kp b H H') (n : H' p = none) : Kp b H (upd H' p o) := fun c u hc z => by
  have z2 := h c u hc z
  rw [upd_ne (ne_of_none z2 n)]
  exact z2
theorem BoxAt.upd {b p : Addr} {H : Hp} {o : HO} (h : BoxAt H b) (n : H p = none) : BoxAt (L2.upd H p o) b := by
  obtain ⟨x, y, z, h1, h2, h3, h4⟩ := h
  refine ⟨x, y, z, h1, h2, h3, ?_⟩
  rw [upd_ne (ne_of_none h4 n)]
  exact h4
theorem BoxAt.ne {b p : Addr} {H : Hp} (h : BoxAt H b) (n : H p = none) : p ≠ b := by
  obtain ⟨x, y, z, _, _, _, h4⟩ := h
  exact (ne_of_none h4 n).symm
def spTake : Sp := fun vs H Q _ => ∃ (b : Addr) (m : Int), vs = [.ref b, .int m] ∧ BoxAt H b ∧ 0 < m ∧ m ≤ 1000000000 ∧
  ∀ (d : Int) (H' : Hp), 0 ≤ d → d < m → BoxAt H' b → (∀ c, c ≠ b → H' c = H c) → Q (.int d) H'
def spCell (K : PySem.W.Frag) : Sp := fun vs H Q _ => ∃ (a : Addr) (ns : List Int) (k : Int), vs = [.ref a, .int k] ∧ SqL K H a (ns.map V.int) ∧
  ns.length ≤ 63 ∧ 0 ≤ k ∧ ∀ n : Int, Q (.int n) H
def spBox : Sp := fun vs H Q _ => ∃ n : Int, vs = [.int n] ∧ ∀ (b : Addr) (H' : Hp), H b = none → BoxAt H' b → (∀ c, c ≠ b → H' c = H c) → Q (.ref b) H'
theorem kp_of {b : Addr} {H H' : Hp} (h : ∀ c, c ≠ b → H' c = H c) : Kp b H H' := fun c o n z => by
  rw [h c n]
  exact z
theorem atI_ints {ns : List Int} {k : Int} (h0 : 0 ≤ k) (h1 : k < ns.length) : ∃ n, atI (ns.map V.int) k = some (.int n) := by
  obtain ⟨j, rfl⟩ : ∃ j : Nat, k = j := ⟨k.toNat, by omega⟩
  have hj : j < ns.length := by omega
  refine ⟨ns[j], atI_nat ?_⟩
  rw [List.getElem?_map, List.getElem?_eq_getElem hj]
  rfl
end Gd
namespace Gd
open PySem PySem.Spec PyProof.Rows L2
/-! ### data by its shape -/
/-- all but what N names is kept -/
def Kq (N : Addr → Prop) (H H' : Hp) : Prop := ∀ c o, ¬ N c → H c = some o → H' c = some o
mutual
/-- the value shows the data d, laid in objects that N does not name -/
inductive Da (H : Hp) (N : Addr → Prop) : V → PyData → Prop
  | non : Da H N .non .none
  | bl (b : Bool) : Da H N (.bl b) (.bool b)
  | int (i : Int) : Da H N (.int i) (.int i)
  | str (x : Str) : Da H N (.str x) (.str x)
  | lst {a : Addr} {xs : List V} {ds : List PyData} : ¬ N a → H a = some (.lst xs) → Das H N xs ds → Da H N (.ref a) (.list ds)
  | tup {a : Addr} {xs : List V} {ds : List PyData} : ¬ N a → H a = some (.tup xs) → Das H N xs ds → Da H N (.ref a) (.tuple ds)
inductive Das (H : Hp) (N : Addr → Prop) : List V → List PyData → Prop
  | nil : Das H N [] []
  | cons {v : V} {vs : List V} {d : PyData} {ds : List PyData} : Da H N v d → Das H N vs ds → Das H N (v :: vs) (d :: ds)
end
mutual
theorem Da.kq {H H' : Hp} {N : Addr → Prop} (k : Kq N H H') : ∀ {v : V} {d : PyData}, Da H N v d → Da H' N v d
  | _, _, .non => .non
  | _, _, .bl b => .bl b
  | _, _, .int i => .int i
  | _, _, .str x => .str x
  | _, _, .lst n h s => .lst n (k _ _ n h) (Das.kq k s)
  | _, _, .tup n h s => .tup n (k _ _ n h) (Das.kq k s)
theorem Das.kq {H H' : Hp} {N : Addr → Prop} (k : Kq N H H') : ∀ {vs : List V} {ds : List PyData}, Das H N vs ds → Das H' N vs ds
  | _, _, .nil => .nil
  | _, _, .cons h s => .cons (Da.kq k h) (Das.kq k s)
end
mutual
theorem Da.wk {H : Hp} {N M : Addr → Prop} (k : ∀ a, M a → N a) : ∀ {v : V} {d : PyData}, Da H N v d → Da H M v d
  | _, _, .non => .non
  | _, _, .bl b => .bl b
  | _, _, .int i => .int i
  | _, _, .str x => .str x
  | _, _, .lst n h s => .lst (fun z => n (k _ z)) h (Das.wk k s)
  | _, _, .tup n h s => .tup (fun z => n (k _ z)) h (Das.wk k s)
theorem Das.wk {H : Hp} {N M : Addr → Prop} (k : ∀ a, M a → N a) : ∀ {vs : List V} {ds : List PyData}, Das H N vs ds → Das H M vs ds
  | _, _, .nil => .nil
  | _, _, .cons h s => .cons (Da.wk k h) (Das.wk k s)
end
mutual
theorem Da.dp {K : PySem.W.Frag} {H : Hp} {N : Addr → Prop} : ∀ {v : V} {d : PyData}, Da H N v d → Dp K H v d
  | _, _, .non => .non
  | _, _, .bl b => .bl b
  | _, _, .int i => .int i
  | _, _, .str x => .str x
  | _, _, .lst _ h s => .lst (SqL.of h) (Das.dp s)
  | _, _, .tup _ h s => .tup (SqT.of h) (Das.dp s)
theorem Das.dp {K : PySem.W.Frag} {H : Hp} {N : Addr → Prop} : ∀ {vs : List V} {ds : List PyData}, Das H N vs ds → DpAll K H vs ds
  | _, _, .nil => .nil
  | _, _, .cons h s => .cons (Da.dp h) (Das.dp s)
end
theorem Das.len {H : Hp} {N : Addr → Prop} : ∀ {vs : List V} {ds : List PyData}, Das H N vs ds → vs.length = ds.length
  | _, _, .nil => rfl
  | _, _, .cons _ s => by rw [List.length_cons, List.length_cons, s.len]
theorem Das.get {H : Hp} {N : Addr → Prop} : ∀ {vs : List V} {ds : List PyData} {i : Nat} {v : V}, Das H N vs ds → vs[i]? = some v → ∃ d, ds[i]? = some d ∧ Da H N v d
  | _, _, 0, _, .cons h _, e => ⟨_, rfl, by
      have e2 := Option.some.inj e
      subst e2
      exact h⟩
  | _, _, i + 1, v, .cons _ s, e => s.get (i := i) (v := v) e
  | _, _, i, _, .nil, e => by simp at e
theorem Das.snoc {H : Hp} {N : Addr → Prop} {v : V} {d : PyData} : ∀ {vs : List V} {ds : List PyData}, Das H N vs ds → Da H N v d → Das H N (vs ++ [v]) (ds ++ [d])
  | _, _, .nil, h => .cons h .nil
  | _, _, .cons g s, h => .cons g (s.snoc h)
theorem Das.set {H : Hp} {N : Addr → Prop} {v : V} {d : PyData} : ∀ {vs : List V} {ds : List PyData} {i : Nat}, Das H N vs ds → Da H N v d → Das H N (vs.set i v) (ds.set i d)
  | _, _, _, .nil, _ => .nil
  | _, _, 0, .cons _ s, h => .cons h s
  | _, _, _ + 1, .cons g s, h => .cons g (s.set h)

theorem same_sqT {K : PySem.W.Frag} {H H' : Hp} {a : Addr} {xs : List V} (s : Same H H') (h : SqT K H a xs) : SqT K H' a xs := by
  rcases h with h | h
  · refine .inl ?_
    rcases h with h | ⟨o, h⟩
    · exact .inl (s _ _ h)
    · exact .inr ⟨o, s _ _ h⟩
  · exact .inr h
mutual
theorem dpSame {K : PySem.W.Frag} {H H' : Hp} (s : Same H H') : ∀ {v : V} {d : PyData}, Dp K H v d → Dp K H' v d
  | _, _, .non => .non
  | _, _, .bl b => .bl b
  | _, _, .int i => .int i
  | _, _, .str x => .str x
  | _, _, .lst h r => .lst (s.seq h) (dpSames s r)
  | _, _, .tup h r => .tup (same_sqT s h) (dpSames s r)
theorem dpSames {K : PySem.W.Frag} {H H' : Hp} (s : Same H H') : ∀ {vs : List V} {ds : List PyData}, DpAll K H vs ds → DpAll K H' vs ds
  | _, _, .nil => .nil
  | _, _, .cons h r => .cons (dpSame s h) (dpSames s r)
end
theorem dpLen {K : PySem.W.Frag} {H : Hp} : ∀ {vs : List V} {ds : List PyData}, DpAll K H vs ds → vs.length = ds.length
  | _, _, .nil => rfl
  | _, _, .cons _ s => by rw [List.length_cons, List.length_cons, dpLen s]
theorem dpGet {K : PySem.W.Frag} {H : Hp} : ∀ {vs : List V} {ds : List PyData} {i : Nat} {v : V}, DpAll K H vs ds → vs[i]? = some v → ∃ d, ds[i]? = some d ∧ Dp K H v d
  | _, _, 0, _, .cons h _, e => ⟨_, rfl, by
      have e2 := Option.some.inj e
      subst e2
      exact h⟩
  | _, _, i + 1, v, .cons _ s, e => dpGet (i := i) (v := v) s e
  | _, _, i, _, .nil, e => by simp at e
theorem d1Same {K : PySem.W.Frag} {H H' : Hp} (s : Same H H') {v : V} {d : PyData} (h : D1 K H v d) : D1 K H' v d := by
  cases h with
  | dp h => exact .dp (dpSame s h)
  | emp h => exact .emp (s _ _ h)
/-! ### the class of data -/
def tyN : PyData → String
  | .none => "NoneType"
  | .bool _ => "bool"
  | .int _ => "int"
  | .str _ => "str"
  | .list _ => "list"
  | .tuple _ => "tuple"
  | .dict _ => "dict"
def isIntD : PyData → Bool
  | .bool _ => true
  | .int _ => true
  | _ => false
def isBoolD : PyData → Bool
  | .bool _ => true
  | _ => false
def isStrD : PyData → Bool
  | .str _ => true
  | _ => false
def isTupD : PyData → Bool
  | .tuple _ => true
  | _ => false
def isSeqD : PyData → Bool
  | .list _ => true
  | .tuple _ => true
  | _ => false
theorem tyL {K : PySem.W.Frag} {H : Hp} {a : Addr} {xs : List V} (h : SqL K H a xs) : TyX K H (.ref a) (.type "list") := by
  rcases h with h | ⟨o, _, _, h, hc, _⟩
  · rcases h with h | ⟨o, h⟩
    · exact .base (.lst h)
    · exact .base (.frz h)
  · exact .kList h hc
theorem tyT {K : PySem.W.Frag} {H : Hp} {a : Addr} {xs : List V} (h : SqT K H a xs) : TyX K H (.ref a) (.type "tuple") := by
  rcases h with h | ⟨o, _, _, h, hc, _⟩
  · rcases h with h | ⟨o, h⟩
    · exact .base (.tup h)
    · exact .fTuple h
  · exact .kTuple h hc
theorem tyD {K : PySem.W.Frag} {H : Hp} {v : V} {d : PyData} (h : D1 K H v d) : TyX K H v (.type (tyN d)) := by
  cases h with
  | dp h =>
    cases h with
    | non => exact .base .non
    | bl b => exact .base (.bl b)
    | int i => exact .base (.int i)
    | str x => exact .base (.str x)
    | lst h _ => exact tyL h
    | tup h _ => exact tyT h
  | emp h => exact .base (.dK h)
theorem kInt {K : PySem.W.Frag} (d : PyData) : PySem.W.kitOne K (.type (tyN d)) (.type "int") = some (isIntD d) := by
  cases d
  all_goals exact kit_ty (by simp only [tyN, isIntD]; decide +kernel)
theorem kBool {K : PySem.W.Frag} (d : PyData) : PySem.W.kitOne K (.type (tyN d)) (.type "bool") = some (isBoolD d) := by
  cases d
  all_goals exact kit_ty (by simp only [tyN, isBoolD]; decide +kernel)
theorem kStr {K : PySem.W.Frag} (d : PyData) : PySem.W.kitOne K (.type (tyN d)) (.type "str") = some (isStrD d) := by
  cases d
  all_goals exact kit_ty (by simp only [tyN, isStrD]; decide +kernel)
theorem kTup {K : PySem.W.Frag} (d : PyData) : PySem.W.kitOne K (.type (tyN d)) (.type "tuple") = some (isTupD d) := by
  cases d
  all_goals exact kit_ty (by simp only [tyN, isTupD]; decide +kernel)
theorem kLst {K : PySem.W.Frag} (d : PyData) : PySem.W.kitOne K (.type (tyN d)) (.type "list") = some (isSeqD d && !isTupD d) := by
  cases d
  all_goals exact kit_ty (by simp only [tyN, isSeqD, isTupD]; decide +kernel)
theorem kSeq {K : PySem.W.Frag} (d : PyData) : PySem.W.kitAny K (.type (tyN d)) [.type "list", .type "tuple"] = some (isSeqD d) := by
  refine kitAny_cons (kLst d) (fun z => kitAny_cons (kTup d) (fun y => ?_) fun y => ?_) fun z => ?_
  · have e : isSeqD d = false := by
      cases d
      all_goals simp_all [isSeqD, isTupD]
    rw [e]
    exact kitAny_nil
  · cases d
    all_goals simp_all [isSeqD, isTupD]
  · cases d
    all_goals simp_all [isSeqD, isTupD]
theorem clsSeq : Paired ClsV [.ty "list", .ty "tuple"] [.type "list", .type "tuple"] := .cons (.ty _) (.cons (.ty _) .nil)
/-! ### how long it is when shown -/
def Big (n : Int) : Prop := -(10 ^ 40) ≤ n ∧ n ≤ 10 ^ 40
theorem big_log {n : Int} (h : Big n) : n.natAbs.log2 < 1920 := by
  have h0 : n.natAbs < 2 ^ 1920 := by
    have h1 : n.natAbs ≤ 10 ^ 40 := by
      obtain ⟨h1, h2⟩ := h
      omega
    exact Nat.lt_of_le_of_lt h1 (by decide +kernel)
  by_cases z : n.natAbs = 0
  · rw [z]
    decide +kernel
  · exact (Nat.log2_lt z).mpr h0
/-- it may be shown, in so many signs, so deep -/
structure Okd (d : PyData) (m e : Nat) : Prop where
  sh : d.showable = true
  ln : d.shown.length ≤ m
  dp : d.depth ≤ e
theorem Okd.up {d : PyData} {m e m' e' : Nat} (h : Okd d m e) (h1 : m ≤ m') (h2 : e ≤ e') : Okd d m' e' := ⟨h.sh, Nat.le_trans h.ln h1, Nat.le_trans h.dp h2⟩
theorem okNone : Okd .none 5 0 := ⟨by simp only [PyData.showable], by simp only [PyData.shown]; decide +kernel, by simp only [PyData.depth]; decide⟩
theorem okBool (b : Bool) : Okd (.bool b) 5 0 := by
  refine ⟨by simp only [PyData.showable], ?_, by simp only [PyData.depth]; decide⟩
  cases b
  · simp only [PyData.shown]
    decide +kernel
  · simp only [PyData.shown]
    decide +kernel
theorem okInt {n : Int} (h : Big n) : Okd (.int n) 50 0 := by
  refine ⟨?_, ?_, by simp only [PyData.depth]; decide⟩
  · simp only [PyData.showable, decide_eq_true_eq]
    exact big_log h
  · simp only [PyData.shown]
    rw [PySem.ofString_length]
    have h1 : n.natAbs < 10 ^ 41 := by
      have h1 : n.natAbs ≤ 10 ^ 40 := by
        obtain ⟨h1, h2⟩ := h
        omega
      exact Nat.lt_of_le_of_lt h1 (by decide +kernel)
    exact Nat.le_trans (int_text_length_le10 (k := 41) (by decide) h1) (by decide)
theorem okStr {x : Str} {m : Nat} (h : (reprText x).length ≤ m) : Okd (.str x) m 0 :=
  ⟨by simp only [PyData.showable], by simp only [PyData.shown]; exact h, by simp only [PyData.depth]; decide⟩
theorem okEmp : Okd (.dict []) 5 1 := by
  refine ⟨by simp only [PyData.showable, PyData.showableKv], ?_, by simp only [PyData.depth, PyData.depthKv]; decide⟩
  simp only [PyData.shown, PyData.shownKv]
  decide +kernel
theorem sum_le {m : Nat} : ∀ ts : List Str, (∀ t ∈ ts, t.length ≤ m) → (ts.map (·.length)).sum ≤ m * ts.length
  | [], _ => by simp
  | t :: r, h => by
    have h1 := h t List.mem_cons_self
    have h2 := sum_le r fun x hx => h x (List.mem_cons_of_mem _ hx)
    rw [List.map_cons, List.sum_cons, List.length_cons, Nat.mul_succ]
    show t.length + _ ≤ _
    omega
theorem oks {m e : Nat} : ∀ {ds : List PyData}, (∀ d ∈ ds, Okd d m e) → PyData.showableAll ds = true ∧ (∀ t ∈ PyData.shownAll ds, t.length ≤ m) ∧ PyData.depthAll ds ≤ e ∧ (PyData.shownAll ds).length = ds.length
  | [], _ => ⟨by simp only [PyData.showableAll], by simp [PyData.shownAll], by simp only [PyData.depthAll]; exact Nat.zero_le _, by simp only [PyData.shownAll]; rfl⟩
  | d :: r, h => by
    have a := h d List.mem_cons_self
    obtain ⟨b1, b2, b3, b4⟩ := oks fun x hx => h x (List.mem_cons_of_mem _ hx)
    refine ⟨by simp only [PyData.showableAll, a.sh, b1, Bool.and_self], ?_, ?_, by simp only [PyData.shownAll, List.length_cons, b4]⟩
    · intro t ht
      simp only [PyData.shownAll, List.mem_cons] at ht
      rcases ht with rfl | ht
      · exact a.ln
      · exact b2 t ht
    · have := a.dp
      simp only [PyData.depthAll]
      omega
theorem okList {ds : List PyData} {m e n : Nat} (h : ∀ d ∈ ds, Okd d m e) (l : ds.length ≤ n) : Okd (.list ds) (m * n + 2 * n + 3) (e + 1) := by
  obtain ⟨b1, b2, b3, b4⟩ := oks h
  refine ⟨by simp only [PyData.showable, b1], ?_, by simp only [PyData.depth]; omega⟩
  simp only [PyData.shown]
  have h1 := listText_len_le (PyData.shownAll ds)
  have h2 := sum_le _ b2
  rw [b4] at h1 h2
  have h3 : m * ds.length ≤ m * n := Nat.mul_le_mul_left m l
  omega
theorem okTuple {ds : List PyData} {m e n : Nat} (h : ∀ d ∈ ds, Okd d m e) (l : ds.length ≤ n) : Okd (.tuple ds) (m * n + 2 * n + 3) (e + 1) := by
  obtain ⟨b1, b2, b3, b4⟩ := oks h
  refine ⟨by simp only [PyData.showable, b1], ?_, by simp only [PyData.depth]; omega⟩
  simp only [PyData.shown]
  have h1 := tupleText_len_le (PyData.shownAll ds)
  have h2 := sum_le _ b2
  rw [b4] at h1 h2
  have h3 : m * ds.length ≤ m * n := Nat.mul_le_mul_left m l
  omega
theorem line_le {n : Nat} (h : n ≤ 1000000) : n ≤ sizeLine := Nat.le_trans h (by decide)
theorem bLn (B : Bool) : (PyData.bool B).shown.length ≤ sizeLine := Nat.le_trans (okBool B).ln (by decide)
theorem bDp (B : Bool) : (PyData.bool B).depth ≤ 60 := Nat.le_trans (okBool B).dp (by decide)
theorem ifSame {x : V} {A B : Prop} (h : B) : if (!decide (x = x)) = true then A else B := by
  rw [decide_eq_true rfl]
  exact h
/-! ### heaps and picks -/
theorem same_new {H : Hp} {p : Addr} {o : HO} (h : H p = none) : Same H (upd H p o) := fun b x e => by
  rw [upd_ne (ne_of_none e h)]
  exact e
theorem kep {H : Hp} {p q : Addr} {o u : HO} (h : H p = some o) (n : H q = none) : (upd H q u) p = some o := by
  rw [upd_ne (ne_of_none h n)]
  exact h
theorem upd_none {H : Hp} {p q : Addr} {o : HO} (h : upd H p o q = none) : H q = none := by
  unfold upd at h
  split at h
  · cases h
  · exact h
theorem pickL (xs : List V) {k : Int} (h0 : 0 ≤ k) (h1 : k < xs.length) : ∃ v, v ∈ xs ∧ atI xs k = some v := by
  obtain ⟨j, rfl⟩ : ∃ j : Nat, k = j := ⟨k.toNat, by omega⟩
  have hj : j < xs.length := by omega
  exact ⟨xs[j], List.getElem_mem hj, atI_nat (List.getElem?_eq_getElem hj)⟩
theorem pickK (xs : List V) {k : Int} (h0 : 0 ≤ k) (h1 : k < xs.length) : ∃ v, xs[k.toNat]? = some v ∧ atI xs k = some v := by
  obtain ⟨j, rfl⟩ : ∃ j : Nat, k = j := ⟨k.toNat, by omega⟩
  have hj : j < xs.length := by omega
  exact ⟨xs[j], List.getElem?_eq_getElem hj, atI_nat (List.getElem?_eq_getElem hj)⟩
theorem boxAway {H : Hp} {b D : Addr} {o : HO} (h : BoxAt H b) (n : D ≠ b) : BoxAt (upd H D o) b := by
  obtain ⟨x, y, z, h1, h2, h3, h4⟩ := h
  refine ⟨x, y, z, h1, h2, h3, ?_⟩
  rw [upd_ne n.symm]
  exact h4
theorem boxSame {b : Addr} {H H' : Hp} (h : BoxAt H b) (s : Same H H') : BoxAt H' b := by
  obtain ⟨x, y, z, h1, h2, h3, h4⟩ := h
  exact ⟨x, y, z, h1, h2, h3, s _ _ h4⟩
theorem same_kp {b : Addr} {H H' : Hp} (s : Same H H') : Kp b H H' := fun c o _ z => s c o z
theorem same_keep {H H' H'' : Hp} {b : Addr} (s : Same H H') (n : H' b = none) (k : ∀ c o, c ≠ b → H' c = some o → H'' c = some o) : Same H H'' := fun c o z =>
  k c o (ne_of_none (s c o z) n) (s c o z)
/-- new in H, where the box is b -/
def Nw (H : Hp) (b : Addr) : Addr → Prop := fun c => c = b ∨ ∃ o, H c = some o
theorem nw_of {H H' : Hp} {b p : Addr} (k : Kp b H H') (n : H' p = none) (hb : p ≠ b) : ¬ Nw H b p := by
  rintro (h | ⟨o, h⟩)
  · exact hb h
  · rw [k p o hb h] at n
    cases n
theorem Kp.kq {b : Addr} {H H' : Hp} {N : Addr → Prop} (k : Kp b H H') (n : N b) : Kq N H H' := fun c o hc z => k c o (fun e => hc (e ▸ n)) z
theorem defAt {K : PySem.W.Frag} {mg : Str → Option Value} {x : Str} {st : Stmt} {ps : List Str} {f : Addr} {oc : Value} {od an : Option Addr} {osl : Array (Option Value)} {kV doc pm cdv ct : Value}
    (m : mg x = some (.ref f))
    (l : K.lookup f = some ⟨oc, od, .func (PySem.W.fnOf x x (defArgs st) (defBody st) (defScope st) .none kV doc pm an cdv ct), osl⟩)
    (c : PySem.W.codeIn K cdv x = true) (k : PySem.W.keepIn K (.ref f) = true)
    (b : ∀ (kV doc pm : Value) (an : Option Addr) (cdv ct : Value) (us : List Value), us.length = ps.length →
      bindArgs (PySem.W.fnOf x x (defArgs st) (defBody st) (defScope st) .none kV doc pm an cdv ct) ⟨us, []⟩ = pure (ps.zip us)) :
    DefAt K mg x st ps := by
  have F := fun_mk (st := st) l c k
  exact ⟨f, _, F, m, F.binds b⟩
end Gd
/-! An own error whose __init__ says super().__init__(a text), then keeps the one thing it is made of. -/
namespace Ge
open PySem PySem.W PySem.Calls PyProof.Rows PySem.HandSPX
def iA (p1 p2 : Pos) : Arguments := { posonlyargs := [], args := [{ arg := "self", annotation := none, pos := p1 }, { arg := "found", annotation := none, pos := p2 }], vararg := none, kwonlyargs := [], kw_defaults := [], kwarg := none, defaults := [] }
def iB (msg : Str) (kk : Nat) (p1 p2 p3 p4 p5 p6 q1 q2 q3 q4 : Pos) : List Stmt :=
  [.Expr (.Call (.Attribute (.Call (.Name "super" p1) [] [] p2) "__init__" p3) [.Constant (.str msg) kk p4] [] p5) p6,
   .Assign [.Attribute (.Name "self" q1) "found" q2] (.Name "found" q3) q4]
def iS : Scope := { kind := .function, names := [(PySem.Str.ofString "self", .local), (PySem.Str.ofString "found", .local), (PySem.Str.ofString "__class__", .free), (PySem.Str.ofString "super", .globalImplicit)], isGenerator := false, isCoroutine := false, more := [] }
/-- what the written part says of the class at C and of its __init__ at fI -/
structure ErrTxt (P : Program) (K : Frag) (C fI : Addr) (qn msg : Str) : Prop where
  cls : ∃ nm q N bs bm sn sub ab col dd k0 k1 k2 k3 k5, K.lookup C = some (excClassObj nm q C N bs bm true sn sub ab col dd k0 k1 k2 k3 k5 "ValueError.__new__") ∧ refsVE bm = true
  sa : findIn K (.ref C) "__setattr__" = some (some (.builtin "object.__setattr__"))
  ga : findIn K (.ref C) "__getattribute__" = some (some (.builtin "BaseException.__getattribute__"))
  gg : findIn K (.ref C) "__getattr__" = some none
  noN : findIn K (.ref C) "found" = some none
  iC : findIn K (.ref C) "__init__" = some (some (.ref fI))
  tC : typeIn K (.ref fI) = some (.type "function")
  kC : keepIn K (.ref C) = true
  exC : subIn K (.ref C) (.type "BaseException") = some true
  veC : subIn K (.ref C) (.type "ValueError") = some true
  tyC : typeIn K (.ref C) = some (.type "type")
  hdC : hasDictIn K C = true
  sub : mroIn K C (.ref C) = some true
  sup : ks_superIn K C C "__init__" = some (some (.builtin "ValueError.__init__"))
  op : nsIn K cStatics "thirdparty.any" = some none
  zs : nsIn K mainGlobals "super" = some none
  htop : (P.main.scope.names.lookup ("super" : Str)).isSome = false
  fn : ∃ (oc : Value) (od : Option Addr) (doc pm : Value) (an : Option Addr) (cda cc : Addr) (ct : Value) (osl : Array (Option Value)) (kk : Nat) (p1 p2 p3 p4 p5 p6 q1 q2 q3 q4 r1 r2 : Pos) (ccl cl : Value) (cdd cld : Option Addr) (vs : Array Value) (ccs csl : Array (Option Value)) (file : Str) (tf : Tok),
    K.lookup fI = some ⟨oc, od, .func (ksFn "__init__" qn (iA r1 r2) (iB msg kk p1 p2 p3 p4 p5 p6 q1 q2 q3 q4) iS .none .none doc pm an (.ref cda) ct cc), osl⟩ ∧ codeIn K (.ref cda) qn = true ∧
    K.lookup cda = some ⟨ccl, cdd, .fields vs, ccs⟩ ∧ vs[2]? = some (.str file tf) ∧ ((P.main.file : Str) == file) = true ∧
    K.lookup cc = some ⟨cl, cld, .cell (some (.ref C)), csl⟩ ∧ (p3.endLine == p5.line) = true
/-- what __init__ leaves of a fresh exception at x -/
structure InitEnd (h h' : Heap) (x C dx t1 : Addr) (v : Value) : Prop where
  keep : ∀ b o, b ≠ x → h.get? b = some o → h'.get? b = some o
  obj : h'.get? x = some { cls := .ref C, dict := some dx, data := .fields #[.ref t1, .none, .none, .none, .bool false, .none] }
  dbig : h.objs.size ≤ dx
  dne : dx ≠ x
  ns : h'.Ns1 dx (fun y => if y = "found" then some v else none)
theorem iS_nocell : ∀ y ∈ iS.names, y.2 ≠ .cell := by decide +kernel
theorem iS_loc (x v : Value) : ∀ y ∈ ([(PySem.Str.ofString "self", x), (PySem.Str.ofString "found", v)] : List (Str × Value)), iS.names.lookup y.1 = some .local := by
  intro y hy
  simp only [List.mem_cons, List.not_mem_nil, or_false] at hy
  rcases hy with rfl | rfl
  · exact (by decide +kernel : iS.names.lookup (PySem.Str.ofString "self") = some .local)
  · exact (by decide +kernel : iS.names.lookup (PySem.Str.ofString "found") = some .local)
/-- o.name(..) in a body that is known to run, the call's line told -/
theorem at_method {M : Model} {A : Around} {c : Code} {E : Value → Shared → Prop} {s : Shared} {env : Env} {o : Expr} {name : Str} {apos pos : Pos} {args : List Expr} {Q : Value → Shared → Prop}
    (hl : (apos.endLine == pos.line) = true) (hf : methodCallForm (args.length + ([] : List Keyword).length) (backTo pos (starEach args env)) (backToKw pos (keywordEach [] env)) = true)
    (h : _root_.PySem.wpAt M A c (attributeBase o name env (eval o env)) (fun ov s₁ => wpAny M A (getMethod ov name (do return (← importBound o env).getD true))
      (fun fx s₂ => wpAny M A (callWith pos fx.1 fx.2 (backTo pos (starEach args env)) (backToKw pos (keywordEach [] env))) Q E s₂) E s₁) E s) :
    _root_.PySem.wpAt M A c (eval (.Call (.Attribute o name apos) args [] pos) env) Q E s := by
  rw [arm_eval_Call]
  apply _root_.PySem.wpAt_bind
  apply _root_.PySem.wpAt_mono h
  · intro ov s₁ h₁
    apply _root_.PySem.wpAt_of_wpAny
    apply wpAny_bind
    apply wpAny_standAt
    have hp : methodCallPos true o env apos pos = pure pos := by
      unfold methodCallPos
      simp [hl]
    unfold methodCall
    rw [hf]
    apply wpAny_bind
    apply wpAny_holding
    apply wpAny_mono h₁
    · intro fx s₂ h₂
      exact wpAny_bind (wpAny_of_eq hp h₂)
    · intro _ _ z
      exact z
  · intro _ _ z
    exact z
section
variable {prog : Program} {w : World} {A : Around} {E : Value → Shared → Prop} {R : Result → Shared → Prop} {s : Shared} {K : Frag} {mg mb : Str → Option Value} {C fI : Addr} {qn msg : Str}
theorem sup_call {h : Heap} {g : Array GenState} {d : Drawn} {t : Nat} {os : OsState} {u e t0 : Addr} {one : Value} {Q : Value → Shared → Prop}
    {nm q : Str} {N : Addr} {bs bm sub : List Value} {sn : List Str} {ab : Bool} {col : Option Bool} {dd : Option Addr} {k0 k1 k2 k3 k5 : Option Value}
    (hC : h.get? C = some (excClassObj nm q C N bs bm true sn sub ab col dd k0 k1 k2 k3 k5 "ValueError.__new__")) (he : h.get? e = some (excO C t0)) (hu : h.get? u = some (kxs_mw "ValueError.__init__" e))
    (hq : ∀ h' t1, (∀ b o, b ≠ e → h.get? b = some o → h'.get? b = some o) → h'.get? e = some (excO C t1) → Q .none ⟨h', g, d, t, os⟩) :
    wpAny (model prog w) A (call (.ref u) [one]) Q E ⟨h, g, d, t, os⟩ := by
  refine wpAny_call (codeAny_of_tree (show wpAny _ (Around.in1 _) (callAny (.ref u) ⟨[one], []⟩) _ _ _ from ?_))
  have e1 : (Value.type "method-wrapper" == Value.type "method" || Value.type "method-wrapper" == Value.type "builtin_function_or_method" || Value.type "method-wrapper" == Value.type "method-wrapper") = true := by decide
  simp only [callAny]
  refine wpAny_bind (m := load u) (wpAny_load hu ?_)
  simp only [kxs_mw, e1, if_true]
  refine (KFB.if_so (by decide) (wpAny_bind (check_bound_init F.excBase_ValueError.toExcCallFacts hC he rfl ?_)))
  refine (wpAny_bind (wpAny_pure (wpAny_pure (And.intro (plainId_quiet F.excBase_ValueError.init.plain _) (codeAny_builtin F.excBase_ValueError.initEntry ?_)))))
  have lz : [one].length ≤ sizeLine := by
    rw [sizeLine_eq]
    exact (by decide : 1 ≤ 16777216)
  exact exc_init_tree (cls := .ref C) (t0 := t0) (dv := none) (c2 := .none) (c3 := .none) (b4 := .bool false) he lz (fun h₄ k₄ hx₄ _ => hq h₄ _ k₄ hx₄)
theorem err_init (T : ErrTxt prog K C fI qn msg) {x t0 : Addr} {v : Value} (X : K.In s.heap) (lim : s.heap.NoLimit) (gl : s.heap.Ns mainGlobals mg) (bl : s.heap.Ns builtinsNs mb)
    (bb : ∀ x : Str, x ≠ "__name__" → mb x = bootBuiltins x) (hx : s.heap.get? x = some (excO C t0)) (hnx : K.lookup x = none) (room : A.depth < recursionLimit)
    (hq : ∀ h' tk dx t1, InitEnd s.heap h' x C dx t1 v → R (.ok (.ret .none)) { s with heap := h', toks := tk }) :
    codeAny (model prog w) A (.call (.ref fI) ⟨[.ref x, v], []⟩) R s := by
  obtain ⟨oc, od, doc, pm, an, cda, cc, ct, osl, kk, p1, p2, p3, p4, p5, p6, q1, q2, q3, q4, r1, r2, ccl, cl, cdd, cld, vs, ccs, csl, file, tf, ho, hcd, hcode, hvs, hfile, hcell, hline⟩ := T.fn
  obtain ⟨nm, q, N, bs, bm, sn, sub, ab, col, dd, k0, k1, k2, k3, k5, hC, hbm⟩ := T.cls
  have hzs := mg_none_of X gl T.zs
  obtain ⟨hp, g, dr, tk, os⟩ := s
  refine ks_codeAny_call_defAt (binds := [("self", .ref x), ("found", v)]) room (X _ _ ho) rfl lim (codeRec_of X hcd) rfl (BindsTo.of_eq (by first | rfl | with_unfolding_all rfl)) iS_nocell (iS_loc _ _) (fun h₁ hns k₁ => ?_) rfl rfl rfl
  have X₁ : K.In h₁ := X.keeps k₁
  have hx₁ := k₁ _ _ hx
  refine ks_wpAt_execs_cons (ks_wpAt_Expr_any (at_method hline (by first | rfl | with_unfolding_all rfl) ?_))
  refine ks_wpAt_super_base rfl rfl (by decide) rfl (X₁ _ _ ho) rfl rfl rfl (X₁ _ _ hcode) rfl hvs hfile T.htop ?_
  refine ks_loadName_global rfl rfl (loadGlobal_builtin (gl.keeps k₁) hzs (bl.keeps k₁) ((bb _ (by decide +kernel)).trans (by decide +kernel : bootBuiltins "super" = some (.type "super"))) ⟨rfl, ?_⟩)
  refine wpAny_loadName_free rfl rfl rfl ⟨_, X₁ _ _ hcell, rfl⟩ ?_
  refine wpAny_loadName_local rfl rfl hns (v := .ref x) (by first | rfl | with_unfolding_all rfl) ?_
  refine ks_wpAny_isType_cls (X₁ _ _ hC) rfl ⟨rfl, ?_⟩
  refine ks_wpAny_call_super (X₁ _ _ hC) rfl hx₁ rfl (fun c e => nomatch e) (looks_mroIn X₁ T.sub) (fun h₂ e₂ k₂ => ?_)
  have X₂ : K.In h₂ := X₁.keeps k₂
  have hx₂ := k₂ _ _ hx₁
  have I₂ : InstAt h₂ x (excO C t0) C none := ⟨hx₂, rfl, rfl, trivial⟩
  have hcl : clsIn K C = some { name := nm, bases := bs, mro := .ref C :: bm, ns := N, qualname := q, hasDict := true, slotNames := sn, subclasses := sub, abstract := ab, collection := col, hasDel := false } := by
    unfold clsIn
    rw [hC]
    all_goals rfl
  have hm := T.sup
  unfold ks_superIn at hm
  rw [hcl] at hm
  have hI : Looks (model prog w) h₂ (isInstance (.ref x) (.type "ValueError")) true := I₂.type.andThen (looks_subIn X₂ T.veC)
  have hxC : x ≠ C := fun z => by
    rw [z, hC] at hnx
    cases hnx
  refine kxs_getMethod kxs_ValueError e₂ (looks_opaque X₂ T.op) (l₀ := .ref C :: bm) ?_ rfl X₂ hm hI hxC (by decide +kernel) ?_
  · exact fun A Q E s k q => wpAny_bind ((looks_clsIn X₂ hcl) A _ E s k (wpAny_pure q))
  have hu : (h₂.push (kxs_mw "ValueError.__init__" x)).get? h₂.objs.size = some (kxs_mw "ValueError.__init__" x) := Heap.get?_push_at rfl rfl
  have k₃ : ∀ b o, h₂.get? b = some o → (h₂.push (kxs_mw "ValueError.__init__" x)).get? b = some o := fun b o e => Heap.get?_push_of_some _ e
  have X₃ : K.In (h₂.push (kxs_mw "ValueError.__init__" x)) := X₂.keeps k₃
  have hx₃ := k₃ _ _ hx₂
  refine kxs_callWith (i := "ValueError.__init__") (x := x) (by rfl) (evalArgs_plain ?_)
  refine Calls.spliced_cons (Calls.Constant_str (k := kk) (pos := p4) ?_)
  refine Calls.spliced_nil ⟨hu, ?_⟩
  refine sup_call (X₃ _ _ hC) hx₃ hu (fun h₄ t1 k₄ hx₄ => ?_)
  -- self.found = found
  have X₄ : K.In h₄ := fun a o e => k₄ a o (fun z => by rw [z, hnx] at e; cases e) (X₃ a o e)
  have hLx : hp.objs.size ≠ x := Nat.ne_of_gt (Heap.lt_size hx)
  have hn₄ := hns
  obtain ⟨oL, es, ep, eL, rL⟩ := hn₄
  have hn₄ : h₄.Ns hp.objs.size _ := ⟨oL, es, ep, k₄ _ _ hLx (k₃ _ _ (k₂ _ _ eL)), rL⟩
  have big : hp.objs.size < h₄.objs.size := hn₄.lt
  show _root_.PySem.wpAt _ _ _ (execs _ _) _ _ _
  refine _root_.PySem.wpAt_of_wpAny (wpAny_execs_cons (plainObj_wpAny_Assign_Attribute ?_))
  refine wpAny_Name (wpAny_loadName_local rfl rfl hn₄ (v := v) (by first | rfl | with_unfolding_all rfl) ?_) (by decide)
  refine wpAny_Name (wpAny_loadName_local rfl rfl hn₄ (v := .ref x) (by first | rfl | with_unfolding_all rfl) ?_) (by decide)
  refine set_plain X₄ (ox := excO C t1) (od := none) ⟨hx₄, rfl, rfl, trivial⟩ T.sa ?_
  refine HandSPX.exc_osa X₄ hx₄ hcl (show refsVE (.ref C :: bm) = true from hbm) rfl T.noN (fun h₅ tk₅ dx k₅ dn dne hx₅ hn₅ => ?_)
  show wpAny _ _ (execs _ _) _ _ _
  exact wpAny_execs_nil (hq h₅ tk₅ dx t1 ⟨fun b o hb e => k₅ b o hb (k₄ b o hb (k₃ b o (k₂ b o (k₁ b o e)))), hx₅, Nat.le_trans (Nat.le_of_lt big) dn, dne, hn₅⟩)
/-- an error that was made: its own dict d holds the thing -/
structure OwnMade (h h' : Heap) (e C d : Addr) (v : Value) : Prop where
  keep : ∀ b o, h.get? b = some o → h'.get? b = some o
  new : h.objs.size ≤ e
  obj : ∃ oe vs, h'.get? e = some oe ∧ oe.cls = .ref C ∧ oe.dict = some d ∧ oe.data = .fields vs ∧ vs[1]? = some .none
  dbig : h.objs.size ≤ d
  dne : d ≠ e
  ns : h'.Ns1 d (fun y => if y = "found" then some v else none)
theorem one_size (v : Value) : [v].length ≤ sizeLine := by
  rw [sizeLine_eq]
  exact (by decide : 1 ≤ 16777216)
theorem err_made (T : ErrTxt prog K C fI qn msg) {v : Value} (X : K.In s.heap) (lim : s.heap.NoLimit) (gl : s.heap.Ns mainGlobals mg) (bl : s.heap.Ns builtinsNs mb)
    (bb : ∀ x : Str, x ≠ "__name__" → mb x = bootBuiltins x) (room : A.depth + 1 < recursionLimit)
    (hq : ∀ h' tk e d, OwnMade s.heap h' e C d v → R (.ok (.ret (.ref e))) { s with heap := h', toks := tk }) :
    codeAny (model prog w) A (.call (.ref C) ⟨[v], []⟩) R s := by
  obtain ⟨nm, q, N, bs, bm, sn, sub, ab, col, dd, k0, k1, k2, k3, k5, hC, hbm⟩ := T.cls
  obtain ⟨hp, g, dr, tk, os⟩ := s
  have k : ∀ b o, hp.get? b = some o → ((hp.push (kdv_tup [v])).push (excO C hp.objs.size)).get? b = some o := fun b o e => Heap.get?_push_of_some _ (Heap.get?_push_of_some _ e)
  have hget : ((hp.push (kdv_tup [v])).push (excO C hp.objs.size)).get? (hp.objs.size + 1) = some (excO C hp.objs.size) := by heap_get
  have hnx : K.lookup (hp.objs.size + 1) = none := by
    cases e : K.lookup (hp.objs.size + 1) with
    | none => rfl
    | some o =>
      have z : hp.get? (hp.objs.size + 1) = some o := X _ _ e
      exact absurd (Nat.lt_of_succ_lt (Heap.lt_size z)) (Nat.lt_irrefl _)
  refine HandSPX.call_own F.excBase_ValueError (fun X => refsVE_contains X bm hbm) (X _ _ hC) (looks_findIn X T.iC) (fun self => bind_fn X self T.tC) (one_size v) ?_
  refine err_init (s := ⟨(hp.push (kdv_tup [v])).push (excO C hp.objs.size), g, dr, tk, os⟩) T (X.keeps k) (lim.keeps k) (gl.keeps k) (bl.keeps k) bb hget hnx ?_ fun h' tk' dx t1 ⟨k', hx, dn, dne, hns⟩ => ?_
  · show A.depth + 1 < recursionLimit
    exact room
  · have old : ∀ b o, hp.get? b = some o → h'.get? b = some o := fun b o e => k' b o (Nat.ne_of_lt (Nat.lt_succ_of_lt (Heap.lt_size e))) (k b o e)
    have z : hp.objs.size + 1 + 1 ≤ dx := by
      first
        | (simpa only [Heap.size_push] using dn)
        | exact dn
        | (have q := dn; rw [Heap.size_push, Heap.size_push] at q; exact q)
    exact ⟨rfl, hq h' tk' (hp.objs.size + 1) dx ⟨old, Nat.le_succ _, ⟨_, _, hx, rfl, rfl, rfl, rfl⟩, Nat.le_trans (Nat.le_trans (Nat.le_succ _) (Nat.le_succ _)) z, dne, hns⟩⟩
end
end Ge
namespace Ge
open PySem PySem.Spec PyProof.Rows L2
theorem relO_f {v : V} {v' : Value} (r : RelV v v') (f : Str) : RelO (List.lookup f [(("found" : Str), v)]) (if f = "found" then some v' else none) := by
  by_cases hw : f = "found"
  · subst hw
    rw [if_pos rfl]
    have q : List.lookup ("found" : Str) [(("found" : Str), v)] = some v := by simp [List.lookup]
    rw [q]
    exact r
  · rw [if_neg hw]
    have qw : (f == ("found" : Str)) = false := by simpa using hw
    have q2 : List.lookup f [(("found" : Str), v)] = none := by simp [List.lookup, qw]
    rw [q2]
    trivial
section
variable {X : Cx} {C fI : Addr} {qn msg cn : Str}
/-- E(e) -/
def tMkE (C : Addr) (ta : TA) : L2.St → Hp → XK → Prop := fun σ H Q => ta σ H fun vs H1 => ∃ v, vs = [v] ∧ ∀ d, H1 d = none → Q (.ref C) (some d) (upd H1 d (.xd [(("found" : Str), v)]))
theorem pmk_err {a : Expr} {ta : TA} {p pos : Pos} {k : Nat} (T : ErrTxt X.prog X.K C fI qn msg) (gC : X.mg cn = some (.ref C)) (hr : Room k X.A) (ha : PA X [a] ta) (hg : Gl X cn)
    (hdb : (cn == ("__debug__" : Str)) = false := by decide)
    (he : starEach (a :: []) X.env = (false, eval a X.env) :: starEach [] X.env := by rfl) (hpl : (backTo pos (starEach [] X.env)).any (·.1) = false := by rfl) :
    PMk X (.Call (.Name cn p) [a] [] pos) (tMkE C ta) := by
  intro pins s σ H Q I h
  apply wpAny_Call_Name_kw
  apply ld_glob I hg gC (hd := hdb)
  refine PySem.W.callWith_K (h₀ := X.base) I.ok.mod.kin T.kC (thn (ha.run pos pins s σ H _ I h) ?_) he hpl
  rintro us s1 ⟨vs, H1, I1, r1, v, ev, q1⟩
  subst ev
  refine ⟨I1.kIn, ?_⟩
  cases r1 with
  | cons rv rn =>
    rename_i v' us'
    cases rn
    show wpAny _ _ (call (.ref C) [v']) _ _ _
    have hlim := I1.nolimit
    have hgl := I1.mod.glob.keeps I1.bk
    obtain ⟨mb, hbl0, hbb⟩ := I1.mod.blt
    have hbl := hbl0.keeps I1.bk
    obtain ⟨hp, g, dr, tk, os⟩ := s1
    refine wpAny_call (err_made T I1.kIn hlim hgl hbl hbb (by have := hr.dp; omega) fun h' tk' e d M => ?_)
    show MkP X pins σ Q (.ref e) ⟨h', g, dr, tk', os⟩
    obtain ⟨oe, fv, hoe, hc, hd, hdat, h1⟩ := M.obj
    have hns := M.ns
    obtain ⟨G', g1, g2⟩ := restrict h' fun b => decide (b ≠ e)
    have gk : ∀ b, b ≠ e → G'.get? b = h'.get? b := fun b hb => g1 b (decide_eq_true hb)
    have ge : G'.get? e = none := g2 e (by simp)
    have old : ∀ b o, hp.get? b = some o → G'.get? b = some o := fun b o q => (gk b (Nat.ne_of_lt (Nat.lt_of_lt_of_le (Heap.lt_size q) M.new))).trans (M.keep b o q)
    have ob : ObjOk X.prog X.w (upd H1 d (.xd [(("found" : Str), v)])) G' d (.xd [(("found" : Str), v)]) :=
      ⟨_, hns.at (fun o q => (gk d M.dne).trans q), fun f => relO_f rv f⟩
    have J : Inv X pins σ (upd H1 d (.xd [(("found" : Str), v)])) ⟨G', g, dr, tk', os⟩ := I1.laid (t' := tk') old M.dbig ob
    refine ⟨e, oe, fv, ⟨G', g, dr, tk', os⟩, _, .ref C, some d, rfl, J, fun b o q => ?_, ge, hoe, ⟨hc, hd⟩, hdat, h1, ?_, rfl, I1.bare, raises_own T.exC T.tyC, q1 d (I1.hok.fresh M.dbig)⟩
    · by_cases hb : b = e
      · have q' : G'.get? b = some o := q
        rw [hb, ge] at q'
        cases q'
      · exact (gk b hb).symm.trans q
    · rw [upd_ne (Ne.symm M.dne)]
      exact I1.hok.fresh M.new
/-- raise E(e) -/
def tRaiseE (C : Addr) (W : WX) (ta : TA) : TS := fun _ σ H => tMkE C ta σ H fun cls d H' => W cls d σ H'
theorem ps_raiseE {a : Expr} {ta : TA} {W : WX} {p pos pos2 : Pos} {k : Nat} (hc : X.calm = true) (T : ErrTxt X.prog X.K C fI qn msg) (gC : X.mg cn = some (.ref C)) (hr : Room k X.A) (tk : Takes X W) (ha : PA X [a] ta) (hg : Gl X cn)
    (hdb : (cn == ("__debug__" : Str)) = false := by decide)
    (he : starEach (a :: []) X.env = (false, eval a X.env) :: starEach [] X.env := by rfl) (hpl : (backTo pos (starEach [] X.env)).any (·.1) = false := by rfl) :
    PS X (.Raise (some (.Call (.Name cn p) [a] [] pos)) none pos2) (tRaiseE C W ta) := ps_raise hc tk (pmk_err T gC hr ha hg hdb he hpl)
/-- e.found, e the exception that the suite holds (at a; its class cls, its dict d) -/
def tFound (C : Addr) (a : Addr) (cls : Value) (d : Option Addr) (te : TE) : TE := fun σ H Q => te σ H fun x H1 => x = .ref a ∧ cls = .ref C ∧ ∃ (dd : Addr) (v : V), d = some dd ∧ H1 dd = some (.xd [(("found" : Str), v)]) ∧ Q v H1
theorem pe_found {a : Addr} {oe : Obj} {cls : Value} {d : Option Addr} {pn : List (Addr × Obj)} {e : Expr} {te : TE} {pos : Pos} (T : ErrTxt X.prog X.K C fI qn msg) (hz : Zc cls d oe) (hf : ∃ vs, oe.data = .fields vs) (he : PE (X.suite a ((a, oe) :: pn)) e te)
    (hb : attributeBase e "found" X.env (eval e X.env) = eval e X.env := by rfl) :
    PE (X.suite a ((a, oe) :: pn)) (.Attribute e "found" pos) (tFound C a cls d te) := by
  constructor
  intro pins s σ H Q I h
  refine attr_of hb (thn (he.run pins s σ H _ I h) ?_)
  rintro u s1 ⟨x, H1, I1, rx, ex, ec, dd, v, ed, ea, q⟩
  subst ex
  obtain rfl : u = Value.ref a := rx
  subst ec
  subst ed
  have ha := (I1.pin (a, oe) (List.mem_append_left _ List.mem_cons_self)).1
  obtain ⟨vs, hd⟩ := hf
  have hx : ObjOk X.prog X.w H1 s1.heap dd (.xd [(("found" : Str), v)]) := I1.hok dd _ ea
  obtain ⟨mA, hns, hr⟩ := hx
  obtain ⟨od, ho, hl⟩ := lookIn_ns hns
  have l : List.lookup ("found" : Str) [(("found" : Str), v)] = some v := by simp [List.lookup]
  obtain ⟨u, hu, ru⟩ := RelO.some_of (v := v) (o := mA "found") (by rw [← l]; exact hr "found")
  have J : PySem.W.InstAt s1.heap a oe C (some od) := by
    refine ⟨ha, hz.1, ?_, by rw [hz.2]; exact ho⟩
    unfold PySem.W.notCls
    rw [hd]
    all_goals rfl
  exact HandSPX.exc_get I1.kIn J T.ga T.gg T.exC (PySem.W.findObj_own T.hdC T.noN rfl (by rw [hl, hu])) (handed_of ru) ⟨v, H1, I1.tok _, ru, q⟩
/-- what a class of errors must say so that isinstance asks it -/
structure IsTxt (K : PySem.W.Frag) (C : Addr) : Prop where
  ha : PySem.W.findIn K (.ref C) "__class__" = some (some (.builtin "object.__class__"))
  hn : PySem.W.specialIn K (.builtin "object.__class__") "__get__" = some (some (.builtin "getset_descriptor.__get__"))
  ht : PySem.W.takesIn K (.builtin "object.__class__") = some true
  hm : PySem.W.mroIn K C (.type "object") = some true
/-- isinstance(e, c), e the exception that the suite holds, with its own dict -/
def rIsF (K : PySem.W.Frag) (C a : Addr) (cls : Value) (d : Option Addr) : List V → Hp → VK → Prop := fun xs H Q => ∃ (c : V) (cv : Value) (b : Bool) (dd : Addr) (v : V), xs = [.ref a, c] ∧ cls = .ref C ∧ d = some dd ∧
  H dd = some (.xd [(("found" : Str), v)]) ∧ ClsV c cv ∧ PySem.W.kitOne K (.ref C) cv = some b ∧ Q (.bl b) H
theorem call_isF {a : Addr} {oe : Obj} {cls : Value} {d : Option Addr} {pn : List (Addr × Obj)} (T : ErrTxt X.prog X.K C fI qn msg) (S : IsTxt X.K C) (hz : Zc cls d oe) (hf : ∃ vs, oe.data = .fields vs) :
    CallR (X.suite a ((a, oe) :: pn)) (.builtin "isinstance") (rIsF X.K C a cls d) := by
  intro pins s σ H xs us Q I r h
  obtain ⟨c, cv, b, dd, v, rfl, rfl, rfl, ea, hcv, e, q⟩ := h
  obtain ⟨u1, u2, rfl, r1, r2⟩ := vals2 r
  cases (show u1 = Value.ref a from r1)
  have e2 := hcv.eq r2
  subst e2
  have ha := (I.pin (a, oe) (List.mem_append_left _ List.mem_cons_self)).1
  obtain ⟨vs, hd⟩ := hf
  have hx : ObjOk X.prog X.w H s.heap dd (.xd [(("found" : Str), v)]) := I.hok dd _ ea
  obtain ⟨mA, hns, _⟩ := hx
  obtain ⟨od, ho, _⟩ := lookIn_ns hns
  have J : PySem.W.InstAt s.heap a oe C (some od) := by
    refine ⟨ha, hz.1, ?_, by rw [hz.2]; exact ho⟩
    unfold PySem.W.notCls
    rw [hd]
    all_goals rfl
  have hcl : (PySem.W.clsIn X.K C).isSome = true := by
    obtain ⟨cd, hc, _⟩ := PySem.W.any_some T.hdC
    rw [hc]
    rfl
  exact PySem.W.kia_one (PySem.W.kitx_exc hcl T.ga T.gg T.exC S.ha S.hn S.ht S.hm) I.kIn J e (fun z => nomatch z) fun tk => ⟨.bl b, H, I.kept (t' := tk) fun _ _ z => z, rfl, q⟩
end
end Ge
/-! Defs that raise, their promise kept where no repr is under way. -/
namespace Gd
open PySem PySem.Spec PyProof.Rows L2
structure CalX (P : Program) (w : World) (K : PySem.W.Frag) (mg : Str → Option Value) (base : Heap) (k : Nat) (x : Str) (sp : Sp) : Prop where
  ex : ∃ (f : Addr) (fd : FuncData) (ps : List Str), FnG P w K mg base (L2.CX P w) k f fd ps sp ∧ mg x = some (.ref f) ∧
    PySem.W.keepIn K (.ref f) = true ∧ Binds K fd ps []
section
variable {P : Program} {w : World} {K : PySem.W.Frag} {mg : Str → Option Value} {base : Heap}
theorem okGX {x qual : Str} {st : Stmt} {f : Addr} {fd : FuncData} {N ps : List Str} {k : Nat} {sp : Sp}
    (F : Fun K x qual st f fd) (S : FnScope N ps (defScope st))
    (ar : ∀ vs H Q E, sp vs H Q E → vs.length = ps.length)
    (bd : ∀ (cdv : Value) (A : Around) (outer : List Env) (s : Shared) (H : Hp) (vs : List V) (Q : VK) (E : XK),
      A.guards = some [] → Room k (A.deeper (envOfC qual (defScope st) s.heap.objs.size f cdv)) → sp vs H Q E →
      ∃ t, PSs (cxOf (L2.CX P w) P w K mg base N qual (defScope st) f cdv A outer s H E) (defBody st) t ∧
        t { nx := fun _ H' => Q .non H', rt := Q } (start N vs) H) :
    FnG P w K mg base (L2.CX P w) (k + 1) f fd ps sp := by
  obtain ⟨oc, od, kV, doc, pm, an, cdv, ct, osl, rfl, lk, cin⟩ := F.ex
  exact fnG_of lk cin S ar fun A outer s H vs Q E hG room prem => bd cdv A outer s H vs Q E hG room prem
theorem DefAt.calX {x : Str} {st : Stmt} {N ps : List Str} {k : Nat} {sp : Sp} (D : DefAt K mg x st ps) (S : FnScope N ps (defScope st))
    (ar : ∀ vs H Q E, sp vs H Q E → vs.length = ps.length)
    (bd : ∀ (f : Addr) (cdv : Value) (A : Around) (outer : List Env) (s : Shared) (H : Hp) (vs : List V) (Q : VK) (E : XK),
      A.guards = some [] → Room k (A.deeper (envOfC x (defScope st) s.heap.objs.size f cdv)) → sp vs H Q E →
      ∃ t, PSs (cxOf (L2.CX P w) P w K mg base N x (defScope st) f cdv A outer s H E) (defBody st) t ∧
        t { nx := fun _ H' => Q .non H', rt := Q } (start N vs) H) : CalX P w K mg base (k + 1) x sp := by
  obtain ⟨f, fd, F, m, b⟩ := D.ex
  exact ⟨f, fd, ps, okGX F S ar (bd f), m, F.kp, b⟩
end
section
variable {X : Cx} {k : Nat} {sp : Sp} {x : Str} {p pos : Pos} {e : Expr} {es : List Expr} {t : TA} {E : L2.St → XK}
theorem enterX {CX : CXT} {f : Addr} {fd : FuncData} {ps : List Str} {pins : List (Addr × Obj)} {σ : L2.St} {H : Hp} {s : Shared} {Q : VK} {us : List Value} {vs : List V} (F : FnG X.prog X.w X.K X.mg X.base CX k f fd ps sp) (hG : X.A.guards = some []) (hr : Room k X.A) (hb : Binds X.K fd ps []) (hx : PassesAt CX X σ (E σ))
    (I : Inv X pins σ H s) (r : Vals vs us) (h : sp vs H Q (E σ)) : wpAny (model X.prog X.w) X.A (call (.ref f) us) (EP X pins σ Q) X.xe s := by
  have hl : us.length = ps.length := r.length ▸ F.arity _ _ _ _ h
  have b := hb s us I.kIn (by rw [List.append_nil]; exact hl)
  rw [List.append_nil] at b
  apply wpAny_call
  apply codeAny_mono (F.go X.A X.stack s H ⟨us, []⟩ us vs Q (E σ) hG hr I.env0 b r h)
  intro r s' hq
  match r, hq with
  | .error e, hq => exact hx pins H s e s' I hq
  | .ok (.ret u), hq => exact I.after hq
  | .ok .next, hq => exact hq.elim
  | .ok .brk, hq => exact hq.elim
  | .ok .cont, hq => exact hq.elim
/-- f(e, ..) of a def that may raise, its promise kept where no repr is under way -/
theorem pe_gx {W : WX} (c : CalX X.prog X.w X.K X.mg X.base k x sp) (hG : X.A.guards = some []) (hr : Room k X.A) (hg : Gl X x) (tk : Takes X W)
    (ha : PA X (e :: es) t) (hdb : (x == ("__debug__" : Str)) = false := by decide)
    (he : starEach (e :: es) X.env = (false, eval e X.env) :: starEach es X.env := by rfl)
    (hpl : (backTo pos (starEach es X.env)).any (·.1) = false := by rfl) :
    PE X (.Call (.Name x p) (e :: es) [] pos) (tCallS sp (WE W) t) := by
  obtain ⟨f, fd, ps, F, m, kp, b⟩ := c.ex
  constructor
  intro pins s σ H Q J prem
  have arg := ha.run pos pins s σ H _ J prem
  apply wpAny_Call_Name_kw
  apply ld_glob J hg m (hd := hdb)
  apply PySem.W.callWith_K (h₀ := X.base) J.ok.mod.kin kp (he := he) (hplain := hpl)
  apply thn arg
  rintro us s1 ⟨vs, H1, J1, rel, q⟩
  exact ⟨J1.kIn, enterX (E := WE W) F hG hr b (passAt tk σ) J1 rel q⟩
/-- the same, where it raises nothing -/
theorem pe_gN (c : CalX X.prog X.w X.K X.mg X.base k x sp) (hG : X.A.guards = some []) (hr : Room k X.A) (hg : Gl X x)
    (ha : PA X (e :: es) t) (hdb : (x == ("__debug__" : Str)) = false := by decide)
    (he : starEach (e :: es) X.env = (false, eval e X.env) :: starEach es X.env := by rfl)
    (hpl : (backTo pos (starEach es X.env)).any (·.1) = false := by rfl) :
    PE X (.Call (.Name x p) (e :: es) [] pos) (tCall sp [] E0 t) := by
  obtain ⟨f, fd, ps, F, m, kp, b⟩ := c.ex
  exact pe_callG F hG hr hg m kp b .nil passL ha hdb he hpl
end
end Gd
/-! A method whose body begins with a call of super().m(..), an own class's, the method that it finds a def that keeps its promise. -/
namespace Gs
open PySem PySem.Spec PyProof.Rows L2 Gd NdefX
open PySem.Calls
open PySem.W (Frag ksFn ks_superIn ks_loadName_global looks_mroIn looks_opaque looks_clsIn clsIn)
/-- what the written part says of the def F at f, of class D, and of super().m in it, g above D as seen from C -/
structure SupTxt (P : Program) (K : Frag) (C D f g cc : Addr) (F : NF) (m : Str) : Prop where
  fn : ∃ (oc : Value) (od : Option Addr) (doc pm : Value) (an : Option Addr) (ct : Value) (osl : Array (Option Value)),
    K.lookup f = some ⟨oc, od, .func (ksFn F.name F.qual F.params F.body F.scope .none .none doc pm an (.ref F.c) ct cc), osl⟩
  cl : F.cl = [(("__class__" : Str), cc)]
  code : PySem.W.codeIn K (.ref F.c) F.qual = true
  cod : ∃ (ccl : Value) (cdd : Option Addr) (vs : Array Value) (ccs : Array (Option Value)) (file : Str) (tf : Tok),
    K.lookup F.c = some ⟨ccl, cdd, .fields vs, ccs⟩ ∧ vs[2]? = some (.str file tf) ∧ ((P.main.file : Str) == file) = true
  cell : ∃ (cv : Value) (cd : Option Addr) (csl : Array (Option Value)), K.lookup cc = some ⟨cv, cd, .cell (some (.ref D)), csl⟩
  isD : ∃ cd, clsIn K D = some cd
  sub : PySem.W.mroIn K C (.ref D) = some true
  sup : ks_superIn K C D m = some (some (.ref g))
  ty : PySem.W.typeIn K (.ref g) = some (.type "function")
  fg : PySem.W.fnIn K g = true
  op : PySem.W.nsIn K cStatics "thirdparty.any" = some none
  zs : PySem.W.nsIn K mainGlobals "super" = some none
  htop : (P.main.scope.names.lookup ("super" : Str)).isSome = false
  hm : (m == ("__class__" : Str)) = false
  hks : F.scope.names.lookup ("super" : Str) = some .globalImplicit
  hkc : F.scope.names.lookup ("__class__" : Str) = some .free
  hself : F.scope.names.lookup ("self" : Str) = some .local
  arg : ∃ ar, (F.params.posonlyargs ++ F.params.args).head? = some ar ∧ ar.arg = "self"
section
variable {CX : CXT} {P : Program} {w : World} {K : Frag} {mg : Str → Option Value} {base : Heap} {N : List Str} {F : NF} {f g C D cc : Addr} {A : Around} {outer : List Env} {s0 : Shared} {H0 : Hp} {E0 : XK} {m : Str}
theorem at_super {body : List Stmt} {p0 p1 apos pos : Pos} {args : List Expr} {s : Shared} {pins : List (Addr × Obj)} {σ : L2.St} {H : Hp} {x dx : Addr} {fs : List (Str × V)} {Q : Value → Shared → Prop}
    (T : SupTxt P K C D f g cc F m) (hline : (apos.endLine == pos.line) = true)
    (hform : methodCallForm (args.length + ([] : List Keyword).length) (backTo pos (starEach args (envF F f s0.heap.objs.size))) (backToKw pos (keywordEach [] (envF F f s0.heap.objs.size))) = true)
    (I : Inv (ncx CX P w K mg base N F f A outer s0 H0 E0) pins σ H s) (hN : N[0]? = some ("self" : Str)) (hσ : σ[0]? = some (some (.ref x))) (hx : H x = some (.ins C dx fs))
    (h : ∀ (q : Addr) (s' : Shared), Inv (ncx CX P w K mg base N F f A outer s0 H0 E0) (pins ++ [(q, PySem.W.methodObj (.ref g) (.ref x))]) σ H s' →
      wpAny (model P w) (ncx CX P w K mg base N F f A outer s0 H0 E0).A (callWith pos (.ref q) [] (backTo pos (starEach args (envF F f s0.heap.objs.size))) (backToKw pos (keywordEach [] (envF F f s0.heap.objs.size)))) Q (ncx CX P w K mg base N F f A outer s0 H0 E0).xe s') :
    _root_.PySem.wpAt (model P w) (ncx CX P w K mg base N F f A outer s0 H0 E0).A (.func body (envF F f s0.heap.objs.size))
      (eval (.Call (.Attribute (.Call (.Name "super" p0) [] [] p1) m apos) args [] pos) (envF F f s0.heap.objs.size)) Q (ncx CX P w K mg base N F f A outer s0 H0 E0).xe s := by
  obtain ⟨oc, od, doc, pm, an, ct, osl, hf⟩ := T.fn
  obtain ⟨ccl, cdd, vs, ccs, file, tf, hcode, hvs, hfile⟩ := T.cod
  obtain ⟨cv, cd0, csl, hcell⟩ := T.cell
  obtain ⟨ar, harg, hself⟩ := T.arg
  obtain ⟨cdD, hD⟩ := T.isD
  have X := I.kIn
  obtain ⟨mb, hbl0, hbb⟩ := I.mod.blt
  have hgl := I.mod.glob.keeps I.bk
  have hbl := hbl0.keeps I.bk
  have hzs := PySem.W.mg_none_of I.mod.kin I.mod.glob T.zs
  obtain ⟨mA, O, _⟩ := ins_get I.hok hx
  obtain ⟨ml, hns, look⟩ := I.loc
  refine Ge.at_method hline hform ?_
  refine ks_wpAt_super_base T.hks T.hkc T.hm rfl (X _ _ hf) rfl harg rfl (X _ _ hcode) rfl hvs hfile T.htop ?_
  refine ks_loadName_global I.ok.kind T.hks (loadGlobal_builtin hgl hzs hbl ((hbb _ (by decide +kernel)).trans (by decide +kernel : bootBuiltins "super" = some (.type "super"))) ⟨rfl, ?_⟩)
  refine wpAny_loadName_free I.ok.kind T.hkc (by show F.cl.lookup _ = _; rw [T.cl]; rfl) ⟨_, X _ _ hcell, rfl⟩ ?_
  have eS : (ncx CX P w K mg base N F f A outer s0 H0 E0).env.scope.names.lookup ("self" : Str) = some .local := T.hself
  obtain ⟨u, ru, lk⟩ := look 0 ("self" : Str) (.ref x) hN hσ (.inl eS)
  have hml : ml ("self" : Str) = some (.ref x) := by
    rcases lk with ⟨_, z⟩ | ⟨z, _⟩
    · rw [z]
      exact congrArg some ru
    · rcases z with z | z
      · have : some NameKind.local = some NameKind.cell := eS.symm.trans z
        cases this
      · have : some NameKind.local = some NameKind.free := eS.symm.trans z
        cases this
  refine wpAny_loadName_local I.ok.kind (by rw [hself]; exact T.hself) hns (v := .ref x) (by rw [hself]; exact hml) ?_
  obtain ⟨oD, hD1, hD2⟩ : ∃ oD, s.heap.get? D = some oD ∧ oD.data = .cls cdD := by
    unfold clsIn at hD
    split at hD
    · rename_i c d cd' sl ho
      cases hD
      exact ⟨_, X _ _ ho, rfl⟩
    · cases hD
  refine ks_wpAny_isType_cls hD1 hD2 ⟨rfl, ?_⟩
  obtain ⟨hp, gs, dr, tk, os⟩ := s
  refine ks_wpAny_call_super hD1 hD2 O.obj rfl (fun c e => nomatch e) (looks_mroIn X T.sub) (fun h₂ e₂ k₂ => ?_)
  have J2 : Inv (ncx CX P w K mg base N F f A outer s0 H0 E0) pins σ H ⟨h₂, gs, dr, tk, os⟩ := I.kept (t' := tk) k₂
  have X₂ := J2.kIn
  have hsup := T.sup
  cases hc : clsIn K C with
  | none =>
    unfold ks_superIn at hsup
    rw [hc] at hsup
    cases hsup
  | some cd =>
    unfold ks_superIn at hsup
    rw [hc] at hsup
    obtain ⟨of, hof, hofc⟩ : ∃ of, h₂.get? g = some of ∧ of.cls = .type "function" := by
      have ht := T.ty
      have ht' : (K.lookup g).map (·.cls) = some (.type "function") := ht
      cases z : K.lookup g with
      | none =>
        rw [z] at ht'
        cases ht'
      | some of =>
        rw [z] at ht'
        exact ⟨of, X₂ _ _ z, Option.some.inj ht'⟩
    have hxC : x ≠ C := fun e => by
      unfold clsIn at hc
      cases z : K.lookup C with
      | none =>
        rw [z] at hc
        cases hc
      | some oC =>
        have hb := I.mod.kin _ _ z
        have := (I.bs C oC hb).2
        rw [← e, hx] at this
        cases this
    refine ks_wpAny_getMethod_super e₂ (looks_opaque X₂ T.op) (l₀ := cd.mro) ?_ rfl X₂ hsup hof hofc hxC T.hm ?_
    · exact fun A Q E s k q => wpAny_bind ((looks_clsIn X₂ hc) A _ E s k (wpAny_pure q))
    · have k₃ : ∀ b o, h₂.get? b = some o → (h₂.push (PySem.W.methodObj (.ref g) (.ref x))).get? b = some o := fun b o e => Heap.get?_push_of_some _ e
      have J3 : Inv (ncx CX P w K mg base N F f A outer s0 H0 E0) pins σ H ⟨h₂.push (PySem.W.methodObj (.ref g) (.ref x)), gs, dr, tk + 1, os⟩ := J2.kept (t' := tk + 1) k₃
      refine h h₂.objs.size _ (J3.pins_of fun p hp => ?_)
      rcases List.mem_append.mp hp with hp | hp
      · exact J3.pin p (List.mem_append_right _ hp)
      · rw [List.mem_singleton.mp hp]
        refine ⟨Heap.get?_push_at rfl rfl, J2.hok.fresh (Nat.le_refl _), Nat.ne_of_gt J2.lt, J2.nofs (Nat.le_refl _), fun v e => nomatch e⟩
/-- a call of the found method, its self bound -/
theorem run_bound {X : Cx} {CX2 : CXT} {k : Nat} {g q x : Addr} {fd : FuncData} {ps : List Str} {sp : Sp} {E : XK} {pins : List (Addr × Obj)} {σ : L2.St} {H : Hp} {s : Shared} {Q : VK} {us : List Value} {vs : List V}
    (G : FnOk X.prog X.w X.K X.mg X.base CX2 k g fd ps sp) (hr : Room k X.A) (hb : Binds X.K fd ps []) (hx : Passes CX2 X E) (I : Inv X pins σ H s)
    (hq : s.heap.get? q = some (PySem.W.methodObj (.ref g) (.ref x))) (r : Vals vs us) (h : sp (.ref x :: vs) H Q E) :
    wpAny (model X.prog X.w) X.A (call (.ref q) us) (EP X pins σ Q) X.xe s := by
  have r2 : Vals (.ref x :: vs) (.ref x :: us) := .cons rfl r
  have long : (Value.ref x :: us).length = ps.length := r2.length ▸ G.len _ _ _ _ h
  have b := hb s (.ref x :: us) I.kIn (by rw [List.append_nil]; exact long)
  rw [List.append_nil] at b
  apply wpAny_call
  apply ks_codeAny_call_bound hq
  apply codeAny_mono (G.run X.A X.stack s H ⟨.ref x :: us, []⟩ (.ref x :: us) (.ref x :: vs) Q E hr I.env0 b r2 h)
  intro r s' hs
  match r, hs with
  | .error _, hs => exact hx pins σ H s _ s' I hs
  | .ok (.ret _), hs => exact I.after hs
  | .ok .next, hs => exact hs.elim
  | .ok .brk, hs => exact hs.elim
  | .ok .cont, hs => exact hs.elim
/-- super().m(e, ..) as a value -/
theorem eval_super {CX2 : CXT} {k : Nat} {fd : FuncData} {ps : List Str} {sp : Sp} {E : XK} {body : List Stmt} {p0 p1 apos pos : Pos} {e : Expr} {es : List Expr} {ta : TA} {s : Shared} {pins : List (Addr × Obj)} {σ : L2.St} {H : Hp} {x dx : Addr} {fs : List (Str × V)} {Q : VK}
    (T : SupTxt P K C D f g cc F m) (hline : (apos.endLine == pos.line) = true)
    (hform : methodCallForm ((e :: es).length + ([] : List Keyword).length) (backTo pos (starEach (e :: es) (envF F f s0.heap.objs.size))) (backToKw pos (keywordEach [] (envF F f s0.heap.objs.size))) = true)
    (I : Inv (ncx CX P w K mg base N F f A outer s0 H0 E0) pins σ H s) (hN : N[0]? = some ("self" : Str)) (hσ : σ[0]? = some (some (.ref x))) (hx : H x = some (.ins C dx fs))
    (G : FnOk P w K mg base CX2 k g fd ps sp) (hr : Room k (ncx CX P w K mg base N F f A outer s0 H0 E0).A) (hb : Binds K fd ps []) (hp : Passes CX2 (ncx CX P w K mg base N F f A outer s0 H0 E0) E)
    (ha : PA (ncx CX P w K mg base N F f A outer s0 H0 E0) (e :: es) ta)
    (he : starEach (e :: es) (envF F f s0.heap.objs.size) = (false, eval e (envF F f s0.heap.objs.size)) :: starEach es (envF F f s0.heap.objs.size))
    (hpl : (backTo pos (starEach es (envF F f s0.heap.objs.size))).any (·.1) = false)
    (h : ta σ H fun vs H1 => sp (.ref x :: vs) H1 Q E) :
    _root_.PySem.wpAt (model P w) (ncx CX P w K mg base N F f A outer s0 H0 E0).A (.func body (envF F f s0.heap.objs.size))
      (eval (.Call (.Attribute (.Call (.Name "super" p0) [] [] p1) m apos) (e :: es) [] pos) (envF F f s0.heap.objs.size)) (EP (ncx CX P w K mg base N F f A outer s0 H0 E0) pins σ Q) (ncx CX P w K mg base N F f A outer s0 H0 E0).xe s := by
  refine at_super T hline hform I hN hσ hx fun q s' J => ?_
  have run := ha.run pos _ s' σ H _ J h
  rw [show starEach (e :: es) (envF F f s0.heap.objs.size) = _ from he]
  rw [show starEach (e :: es) (ncx CX P w K mg base N F f A outer s0 H0 E0).env = _ from he] at run
  apply PySem.W.callWith_of (P := PySem.W.MethP K q g (.ref x)) (by show ((false || (backTo pos (starEach es _)).any (·.1)) || false) = false; rw [hpl]; rfl) (PySem.W.keeps_M T.fg)
  apply evalArgs_plain
  apply thn run
  rintro us s1 ⟨vs, H1, J1, rel, q1⟩
  have hq := (J1.pin (q, PySem.W.methodObj (.ref g) (.ref x)) (List.mem_append_right _ (List.mem_append_right _ List.mem_cons_self))).1
  refine ⟨⟨hq, J1.kIn⟩, ?_⟩
  refine wpAny_mono (run_bound (pins := pins ++ [(q, PySem.W.methodObj (.ref g) (.ref x))]) G hr hb hp J1 hq rel q1) (fun v s2 hv => ?_) fun _ _ z => z
  obtain ⟨y, H2, J2, ry, qy⟩ := hv
  exact ⟨y, H2, J2.pins_of fun p hp => J2.pin p (List.mem_append_right _ (List.mem_append_left _ hp)), ry, qy⟩
theorem cells_at (T : SupTxt P K C D f g cc F m) (e0 : Env0 P w K mg base A outer s0 H0) : CellsAt F.cl ["__class__"] [some (.ref D)] s0.heap H0 := by
  obtain ⟨cv, cd0, csl, hcell⟩ := T.cell
  have hb := e0.mod.kin _ _ hcell
  obtain ⟨h1, h2⟩ := e0.bs _ _ hb
  have hl : ∀ y c, F.cl.lookup y = some c → y = ("__class__" : Str) ∧ c = cc := fun y c z => by
    rw [T.cl] at z
    by_cases e : y = ("__class__" : Str)
    · subst e
      refine ⟨rfl, ?_⟩
      simpa [List.lookup] using z.symm
    · have e2 : (y == ("__class__" : Str)) = false := by simpa using e
      simp [List.lookup, e2] at z
  refine ⟨rfl, fun y c z => ?_, fun a b c z1 z2 => (hl a c z1).1.trans (hl b c z2).1.symm, fun i y z => ?_⟩
  · rw [(hl y c z).2]
    exact ⟨h2, _, _, h1, rfl⟩
  · cases i with
    | zero =>
      cases (show some ("__class__" : Str) = some y from z)
      refine ⟨cc, by rw [T.cl]; simp [List.lookup], fun v ev => ?_⟩
      cases (show some (some (V.ref D)) = some (some v) from ev)
      exact ⟨.ref D, rfl, _, h1, rfl⟩
    | succ n => cases z
/-- a def y = super().m(e, ..); .. keeps its promise -/
theorem okS_set {CX2 : CXT} {k i : Nat} {fd2 : FuncData} {ps ps2 : List Str} {sp sp2 : Sp} {p0 p1 apos pos py pst : Pos} {e : Expr} {es : List Expr} {st : List Stmt} {y : Str}
    {oc : Value} {od : Option Addr} {doc pm : Value} {an : Option Addr} {ct : Value} {osl : Array (Option Value)}
    (T : SupTxt P K C D f g cc F m) (hf : K.lookup f = some ⟨oc, od, .func (ksFn F.name F.qual F.params F.body F.scope .none .none doc pm an (.ref F.c) ct cc), osl⟩)
    (S : NScope N ps ["__class__"] F.scope)
    (hbd : F.body = .Assign [.Name y py] (.Call (.Attribute (.Call (.Name "super" p0) [] [] p1) m apos) (e :: es) [] pos) pst :: st)
    (ar : ∀ vs H Q E, sp vs H Q E → vs.length = ps.length) (hN : N[0]? = some ("self" : Str)) (hi : N[i]? = some y) (hy : F.scope.names.lookup y = some .local)
    (G : FnOk P w K mg base CX2 k g fd2 ps2 sp2) (hb2 : Binds K fd2 ps2 [])
    (hline : (apos.endLine == pos.line) = true)
    (hform : ∀ L, methodCallForm ((e :: es).length + ([] : List Keyword).length) (backTo pos (starEach (e :: es) (envF F f L))) (backToKw pos (keywordEach [] (envF F f L))) = true)
    (he : ∀ L, starEach (e :: es) (envF F f L) = (false, eval e (envF F f L)) :: starEach es (envF F f L))
    (hpl : ∀ L, (backTo pos (starEach es (envF F f L))).any (·.1) = false)
    (hsw : ∀ L, swapsWith (.Call (.Attribute (.Call (.Name "super" p0) [] [] p1) m apos) (e :: es) [] pos) (some (.Name y py)) pst.line (envF F f L) = pure false)
    (bd : ∀ (A : Around) (outer : List Env) (s : Shared) (H : Hp) (vs : List V) (Q : VK) (E : XK), Room k (A.deeper (envF F f s.heap.objs.size)) → sp vs H Q E →
      ∃ (x dx : Addr) (fs : List (Str × V)) (E2 : XK) (ta : TA) (tr : TS), (startF N vs [some (.ref D)])[0]? = some (some (.ref x)) ∧ H x = some (.ins C dx fs) ∧ Passes CX2 (ncx CX P w K mg base N F f A outer s H E) E2 ∧
        PA (ncx CX P w K mg base N F f A outer s H E) (e :: es) ta ∧ PSs (ncx CX P w K mg base N F f A outer s H E) st tr ∧
        ta (startF N vs [some (.ref D)]) H fun ws H1 => sp2 (.ref x :: ws) H1 (fun v H2 => tr { nx := fun _ H' => Q .non H', rt := Q } ((startF N vs [some (.ref D)]).set i (some v)) H2) E2) :
    FnOk P w K mg base CX (k + 1) f (ksFn F.name F.qual F.params F.body F.scope .none .none doc pm an (.ref F.c) ct cc) ps sp := by
  refine ⟨ar, fun A outer s H args us vs Q E room env bind rel prem => ?_⟩
  have kin : K.In s.heap := env.mod.kin.keeps fun b o z => (env.bs b o z).1
  have nl : s.heap.NoLimit := env.mod.nolimit.keeps fun b o z => (env.bs b o z).1
  have long := ar _ _ _ _ prem
  obtain ⟨x, dx, fs, E2, ta, tr, hσ, hx, hp, ha, hr, q⟩ := bd A outer s H vs Q E (room.deeper _) prem
  have cells := cells_at T env
  have TT := T
  obtain ⟨nm, qual, params, body, scope, cl, c⟩ := F
  have hcl : cl = [(("__class__" : Str), cc)] := T.cl
  subst hcl
  refine ks_codeAny_call_defAt (binds := ps.zip us) room.depth (kin _ _ hf) rfl nl (PySem.W.codeRec_of kin T.code) rfl bind S.nocell (fun z hz => S.par z.1 (List.of_mem_zip hz).1) (fun h₁ hns k₁ => ?_) S.co S.gen S.kind
  have I : Inv (ncx CX P w K mg base N ⟨nm, qual, params, body, scope, [(("__class__" : Str), cc)], c⟩ f A outer s H E) [] (startF N vs [some (.ref D)]) H { s with heap := h₁, toks := s.toks + (ps.zip us).length } := inv_startN S room.hd env long rel cells hns k₁
  have hbd2 : body = .Assign [.Name y py] (.Call (.Attribute (.Call (.Name "super" p0) [] [] p1) m apos) (e :: es) [] pos) pst :: st := hbd
  subst hbd2
  generalize hF : (⟨nm, qual, params, .Assign [.Name y py] (.Call (.Attribute (.Call (.Name "super" p0) [] [] p1) m apos) (e :: es) [] pos) pst :: st, scope, [(("__class__" : Str), cc)], c⟩ : NF) = F at *
  have W : _root_.PySem.wpAt (model P w) (ncx CX P w K mg base N F f A outer s H E).A (.func F.body (envF F f s.heap.objs.size)) (execs F.body (envF F f s.heap.objs.size))
      (SP (ncx CX P w K mg base N F f A outer s H E) [] { nx := fun _ H' => Q .non H', rt := Q }) (ncx CX P w K mg base N F f A outer s H E).xe { s with heap := h₁, toks := s.toks + (ps.zip us).length } := by
    rw [hbd]
    apply ks_wpAt_execs_cons
    apply ks_wpAt_Assign_Name (hs := hsw _)
    apply PySem.ks_wpAt_mono (eval_super (σ := startF N vs [some (.ref D)]) TT hline (hform _) I hN hσ hx G (room.deeper _) hb2 hp ha (he _) (hpl _) q)
    · intro v s1 hv
      obtain ⟨u, H1, I1, ru, q1⟩ := hv
      apply store_ok I1 S.nd hi (.inl hy) ru (hf := .inr hy)
      intro s2 I2
      exact _root_.PySem.wpAt_of_wpAny (hr.run [] s2 _ H1 _ I2 q1)
    · exact fun _ _ z => z
  subst hF
  refine PySem.ks_wpAt_mono W (fun fl s' hs => ?_) fun _ _ z => z
  · cases fl with
    | ret u =>
      obtain ⟨v, σ2, H2, J, rv, qv⟩ := hs
      exact ⟨v, H2, J.os, J.bare, J.base, J.hok, rv, qv⟩
    | next =>
      obtain ⟨σ2, H2, J, qv⟩ := hs
      exact ⟨.non, H2, J.os, J.bare, J.base, J.hok, rfl, qv⟩
    | brk =>
      obtain ⟨_, _, _, qv⟩ := hs
      exact qv.elim
    | cont =>
      obtain ⟨_, _, _, qv⟩ := hs
      exact qv.elim
/-- super().m() as a value -/
theorem eval_super0 {CX2 : CXT} {k : Nat} {fd : FuncData} {ps : List Str} {sp : Sp} {E : XK} {body : List Stmt} {p0 p1 apos pos : Pos} {s : Shared} {pins : List (Addr × Obj)} {σ : L2.St} {H : Hp} {x dx : Addr} {fs : List (Str × V)} {Q : VK}
    (T : SupTxt P K C D f g cc F m) (hline : (apos.endLine == pos.line) = true)
    (hform : methodCallForm (([] : List Expr).length + ([] : List Keyword).length) (backTo pos (starEach [] (envF F f s0.heap.objs.size))) (backToKw pos (keywordEach [] (envF F f s0.heap.objs.size))) = true)
    (I : Inv (ncx CX P w K mg base N F f A outer s0 H0 E0) pins σ H s) (hN : N[0]? = some ("self" : Str)) (hσ : σ[0]? = some (some (.ref x))) (hx : H x = some (.ins C dx fs))
    (G : FnOk P w K mg base CX2 k g fd ps sp) (hr : Room k (ncx CX P w K mg base N F f A outer s0 H0 E0).A) (hb : Binds K fd ps []) (hp : Passes CX2 (ncx CX P w K mg base N F f A outer s0 H0 E0) E)
    (h : sp [.ref x] H Q E) :
    _root_.PySem.wpAt (model P w) (ncx CX P w K mg base N F f A outer s0 H0 E0).A (.func body (envF F f s0.heap.objs.size))
      (eval (.Call (.Attribute (.Call (.Name "super" p0) [] [] p1) m apos) [] [] pos) (envF F f s0.heap.objs.size)) (EP (ncx CX P w K mg base N F f A outer s0 H0 E0) pins σ Q) (ncx CX P w K mg base N F f A outer s0 H0 E0).xe s := by
  refine at_super T hline hform I hN hσ hx fun q s' J => ?_
  have hq := (J.pin (q, PySem.W.methodObj (.ref g) (.ref x)) (List.mem_append_right _ (List.mem_append_right _ List.mem_cons_self))).1
  apply PySem.W.callWith_of (P := PySem.W.MethP K q g (.ref x)) rfl (PySem.W.keeps_M T.fg)
  apply evalArgs_nil3
  refine ⟨⟨hq, J.kIn⟩, ?_⟩
  refine wpAny_mono (run_bound (us := []) (vs := []) (pins := pins ++ [(q, PySem.W.methodObj (.ref g) (.ref x))]) G hr hb hp J hq .nil h) (fun v s2 hv => ?_) fun _ _ z => z
  obtain ⟨y, H2, J2, ry, qy⟩ := hv
  exact ⟨y, H2, J2.pins_of fun p hp => J2.pin p (List.mem_append_right _ (List.mem_append_left _ hp)), ry, qy⟩
/-- a def super().m(); .. keeps its promise -/
theorem okS_do {CX2 : CXT} {k : Nat} {fd2 : FuncData} {ps ps2 : List Str} {sp sp2 : Sp} {p0 p1 apos pos pst : Pos} {st : List Stmt}
    {oc : Value} {od : Option Addr} {doc pm : Value} {an : Option Addr} {ct : Value} {osl : Array (Option Value)}
    (T : SupTxt P K C D f g cc F m) (hf : K.lookup f = some ⟨oc, od, .func (ksFn F.name F.qual F.params F.body F.scope .none .none doc pm an (.ref F.c) ct cc), osl⟩)
    (S : NScope N ps ["__class__"] F.scope)
    (hbd : F.body = .Expr (.Call (.Attribute (.Call (.Name "super" p0) [] [] p1) m apos) [] [] pos) pst :: st)
    (ar : ∀ vs H Q E, sp vs H Q E → vs.length = ps.length) (hN : N[0]? = some ("self" : Str))
    (G : FnOk P w K mg base CX2 k g fd2 ps2 sp2) (hb2 : Binds K fd2 ps2 [])
    (hline : (apos.endLine == pos.line) = true)
    (hform : ∀ L, methodCallForm (([] : List Expr).length + ([] : List Keyword).length) (backTo pos (starEach [] (envF F f L))) (backToKw pos (keywordEach [] (envF F f L))) = true)
    (hsw : ∀ L, swapsWith (.Call (.Attribute (.Call (.Name "super" p0) [] [] p1) m apos) [] [] pos) none pst.line (envF F f L) = pure false)
    (bd : ∀ (A : Around) (outer : List Env) (s : Shared) (H : Hp) (vs : List V) (Q : VK) (E : XK), Room k (A.deeper (envF F f s.heap.objs.size)) → sp vs H Q E →
      ∃ (x dx : Addr) (fs : List (Str × V)) (E2 : XK) (tr : TS), (startF N vs [some (.ref D)])[0]? = some (some (.ref x)) ∧ H x = some (.ins C dx fs) ∧ Passes CX2 (ncx CX P w K mg base N F f A outer s H E) E2 ∧
        PSs (ncx CX P w K mg base N F f A outer s H E) st tr ∧
        sp2 [.ref x] H (fun _ H2 => tr { nx := fun _ H' => Q .non H', rt := Q } (startF N vs [some (.ref D)]) H2) E2) :
    FnOk P w K mg base CX (k + 1) f (ksFn F.name F.qual F.params F.body F.scope .none .none doc pm an (.ref F.c) ct cc) ps sp := by
  refine ⟨ar, fun A outer s H args us vs Q E room env bind rel prem => ?_⟩
  have kin : K.In s.heap := env.mod.kin.keeps fun b o z => (env.bs b o z).1
  have nl : s.heap.NoLimit := env.mod.nolimit.keeps fun b o z => (env.bs b o z).1
  have long := ar _ _ _ _ prem
  obtain ⟨x, dx, fs, E2, tr, hσ, hx, hp, hr, q⟩ := bd A outer s H vs Q E (room.deeper _) prem
  have cells := cells_at T env
  have TT := T
  obtain ⟨nm, qual, params, body, scope, cl, c⟩ := F
  have hcl : cl = [(("__class__" : Str), cc)] := T.cl
  subst hcl
  refine ks_codeAny_call_defAt (binds := ps.zip us) room.depth (kin _ _ hf) rfl nl (PySem.W.codeRec_of kin T.code) rfl bind S.nocell (fun z hz => S.par z.1 (List.of_mem_zip hz).1) (fun h₁ hns k₁ => ?_) S.co S.gen S.kind
  have I : Inv (ncx CX P w K mg base N ⟨nm, qual, params, body, scope, [(("__class__" : Str), cc)], c⟩ f A outer s H E) [] (startF N vs [some (.ref D)]) H { s with heap := h₁, toks := s.toks + (ps.zip us).length } := inv_startN S room.hd env long rel cells hns k₁
  have hbd2 : body = .Expr (.Call (.Attribute (.Call (.Name "super" p0) [] [] p1) m apos) [] [] pos) pst :: st := hbd
  subst hbd2
  generalize hF : (⟨nm, qual, params, .Expr (.Call (.Attribute (.Call (.Name "super" p0) [] [] p1) m apos) [] [] pos) pst :: st, scope, [(("__class__" : Str), cc)], c⟩ : NF) = F at *
  have W : _root_.PySem.wpAt (model P w) (ncx CX P w K mg base N F f A outer s H E).A (.func F.body (envF F f s.heap.objs.size)) (execs F.body (envF F f s.heap.objs.size))
      (SP (ncx CX P w K mg base N F f A outer s H E) [] { nx := fun _ H' => Q .non H', rt := Q }) (ncx CX P w K mg base N F f A outer s H E).xe { s with heap := h₁, toks := s.toks + (ps.zip us).length } := by
    rw [hbd]
    apply ks_wpAt_execs_cons
    apply ks_wpAt_Expr_any (hi := I.quiet) (hs := hsw _)
    apply PySem.ks_wpAt_mono (eval_super0 (σ := startF N vs [some (.ref D)]) TT hline (hform _) I hN hσ hx G (room.deeper _) hb2 hp q)
    · intro v s1 hv
      obtain ⟨u, H1, I1, ru, q1⟩ := hv
      exact _root_.PySem.wpAt_of_wpAny (hr.run [] s1 _ H1 _ I1 q1)
    · exact fun _ _ z => z
  subst hF
  refine PySem.ks_wpAt_mono W (fun fl s' hs => ?_) fun _ _ z => z
  · cases fl with
    | ret u =>
      obtain ⟨v, σ2, H2, J, rv, qv⟩ := hs
      exact ⟨v, H2, J.os, J.bare, J.base, J.hok, rv, qv⟩
    | next =>
      obtain ⟨σ2, H2, J, qv⟩ := hs
      exact ⟨.non, H2, J.os, J.bare, J.base, J.hok, rfl, qv⟩
    | brk =>
      obtain ⟨_, _, _, qv⟩ := hs
      exact qv.elim
    | cont =>
      obtain ⟨_, _, _, qv⟩ := hs
      exact qv.elim
end
end Gs
/-! dict comprehensions whose keys are tuples -/
namespace Gq
open PySem PySem.Spec PyProof.Rows L2
section
variable {X : Cx}
theorem putTup {ps : List (Addr × Obj)} {σ : L2.St} {H : Hp} {s : Shared} {E : Value → Shared → Prop} {D b : Addr} {tab : List (List Key × V)} {ks : List Key} {x : V} {r : Value} {R : Unit → Shared → Prop} (room : X.A.units + 1 < cLine) (inv : Inv X ps σ H s) (eD : H D = some (.dT tab))
    (eb : H b = some (.tup (ks.map kV))) (few : tab.length < sizeLine) (rx : RelV x r) (go : ∀ s', Inv X ps σ (upd H D (.dT (putK tab ks x))) s' → R () s') : wpAny (model X.prog X.w) X.A (dictSet D (.ref b) r) R E s := by
  obtain ⟨_, notSys, us, rel, of_⟩ := dt_of inv.hok eD
  have short : us.length ≤ sizeLine := by
    have := Paired.length rel
    omega
  refine wpAny_dictSet_heap (hsz := short) (show X.A.units < cLine by omega) (key_of inv.hok eb) of_ fun h2 of2 but => go _ ?_
  obtain ⟨ob, es, ep, at_, w1, w2, w3, _, w4⟩ := of2
  refine d_write inv (by rw [eD]; exact True.intro) but ⟨ob, at_⟩ ⟨?_, notSys, _, (rel.put ks eb rx).keeps fun c ys ec => ?_, ob, es, ep, at_, w1, w2, w3, w4⟩
  · have := length_putK tab ks x
    omega
  · rw [upd_ne (ne_of ec eD (fun y => nomatch y))]
    exact ec
/-- what is left when the block has a turn: the pair is put, or the turn is passed over -/
def turnT (D : Addr) (tt : TT) (tk tv : TE) (nxt : Hp → Prop) : L2.St → Hp → Prop := fun σ H => tt σ H fun yes H1 => if yes = true then tk σ H1 fun y H2 => tv σ H2 fun z H3 =>
  ∃ (tab : List (List Key × V)) (ks : List Key) (a : Addr), y = .ref a ∧ H3 a = some (.tup (ks.map kV)) ∧ H3 D = some (.dT tab) ∧ tab.length < sizeLine ∧ nxt (upd H3 D (.dT (putK tab ks z))) else nxt H1
def tDcT (wi : TI) (g : TG) (tt : TT) (tk tv : TE) (vs : List Nat) : TE := fun σ H Q => wi σ H fun J H0 => ∀ D, H0 D = none → ∃ W : Nat → Nat → Hp → Prop, (∃ m, W 0 m (upd H0 D (.dT []))) ∧ ∀ i m H1, W i m H1 →
  (J.stop i H1 ∧ Q (.ref D) H1) ∨ (J.go i H1 ∧ ∃ nxt : Hp → Prop, (∀ H2, nxt H2 → ∃ m2, m2 < m ∧ W (i + 1) m2 H2) ∧ ∀ x H2, J.yld i H1 x H2 → g x (wipe σ vs) H2 fun σ2 H3 => wipe σ2 vs = wipe σ vs ∧ turnT D tt tk tv nxt σ2 H3)
theorem pe_dcT {kx vx tg iter : Expr} {ifs : List Expr} {scope : Scope} {own : List (Str × Nat)} {pos : Pos} {wi : TI} {g : TG} {tt : TT} {tk tv : TE} (calm : X.calm = true) (nd : X.N.Nodup) (over : PI X tg iter wi) (blk : BlkOk X.N X.env.scope scope own)
    (hg : ∀ (t : Shared) (h : Hp) (c : Addr) (cs : List (Str × Addr)) (fs : List Addr), PG (X.blk t h scope (compEnvC scope cs c X.env) fs) tg g)
    (ht : ∀ (t : Shared) (h : Hp) (c : Addr) (cs : List (Str × Addr)) (fs : List Addr), PTs (X.blk t h scope (compEnvC scope cs c X.env) fs) ifs tt)
    (hk : ∀ (t : Shared) (h : Hp) (c : Addr) (cs : List (Str × Addr)) (fs : List Addr), PE (X.blk t h scope (compEnvC scope cs c X.env) fs) kx tk)
    (hv : ∀ (t : Shared) (h : Hp) (c : Addr) (cs : List (Str × Addr)) (fs : List Addr), PE (X.blk t h scope (compEnvC scope cs c X.env) fs) vx tv) (room : X.A.units + 1 < cLine) (plain : ∀ x, foldedSetIterable iter X.env x = pure x := by intro _; rfl) :
    PE X (.DictComp kx vx [⟨tg, iter, ifs, 0⟩] scope pos) (tDcT wi g tt tk tv (own.map (·.2))) := by
  refine ⟨fun ps s σ H Q inv h => ?_⟩
  rw [arm_eval_DictComp]
  have free : ∀ y ∈ scope.names, y.2 = .free → ∃ c, X.env.cells.lookup y.1 = some c := fun y hy e => (blk.free y hy e).elim (fun k => inv.ok.has _ (.inl k)) fun k => inv.ok.has _ (.inr k)
  refine wpAny_comprehension_free rfl plain (closure_ok free) blk.kind (fun y hy e => by rw [blk.uniq y hy, e]) (thn (over.run ps s σ H _ inv h) fun v0 sA hA => thn hA fun v1 sB hB => ?_)
  obtain ⟨it, fp, tn, J, H0, rfl, invB, walk, stB, fpB, laps⟩ := hB
  refine (wpAny_newObj_type (newEnv_comp ?_))
  generalize eD : sB.heap.objs.size = D
  obtain ⟨W, ⟨m0, first⟩, each⟩ := laps D (invB.hok.fresh (Nat.le_of_eq eD))
  generalize eC : ({ sB with heap := sB.heap.push { cls := .type "dict", data := .dict #[] } } : Shared) = sC
  have heapC : sC.heap = sB.heap.push { cls := .type "dict", data := .dict #[] } := by rw [← eC]
  have invC : Inv X ps σ (upd H0 D (.dT [])) sC := by
    rw [← eC]
    refine invB.laid (t' := sB.toks) (fun b o e => Heap.get?_push_of_some _ e) (Nat.le_of_eq eD) ?_
    rw [← eD]
    exact dt_empty sB.heap invB.big
  have fpC : ∀ b ∈ fp, FpOk X ps (upd H0 D (.dT [])) b ∧ b < sC.heap.objs.size := fun b hb => by
    obtain ⟨o, e, _⟩ := walk.obj _ _ stB b hb
    have below := Heap.lt_size e
    refine ⟨⟨?_, (fpB b hb).2⟩, by rw [heapC, Heap.size_push]; exact Nat.lt_succ_of_lt below⟩
    rw [upd_ne (by rw [← eD]; exact Nat.ne_of_lt below)]
    exact (fpB b hb).1
  have stC : tn 0 sC.heap := walk.keep _ _ _ stB fun b _ o e => by rw [heapC]; exact Heap.get?_push_of_some _ e
  have invD := block_start invC blk nd fpC
  have rg := hg sC (upd H0 D (.dT [])) sC.heap.objs.size (cellsFrom (sC.heap.objs.size + 1) scope.names (cloFrom X.env.cells scope.names [])) fp
  have rt := ht sC (upd H0 D (.dT [])) sC.heap.objs.size (cellsFrom (sC.heap.objs.size + 1) scope.names (cloFrom X.env.cells scope.names [])) fp
  have rk := hk sC (upd H0 D (.dT [])) sC.heap.objs.size (cellsFrom (sC.heap.objs.size + 1) scope.names (cloFrom X.env.cells scope.names [])) fp
  have rv := hv sC (upd H0 D (.dT [])) sC.heap.objs.size (cellsFrom (sC.heap.objs.size + 1) scope.names (cloFrom X.env.cells scope.names [])) fp
  have fpN : ∀ b ∈ fp, (upd H0 D (.dT [])) b = none := fun b hb => (fpC b hb).1.1
  change codeAny (model X.prog X.w) X.A (.compStart _ 0 (.ref it) (.ref D) (compEnvC scope (cellsFrom (sC.heap.objs.size + 1) scope.names (cloFrom X.env.cells scope.names [])) sC.heap.objs.size X.env)) (compPost _ X.A X.xe none (EP X ps σ Q) (.ref D) sC.heap.objs.size) _
  generalize eE : compEnvC scope (cellsFrom (sC.heap.objs.size + 1) scope.names (cloFrom X.env.cells scope.names [])) sC.heap.objs.size X.env = env at invD rg rt rk rv ⊢
  have locE : env.locals = sC.heap.objs.size := by rw [← eE]; rfl
  generalize eH : upd H0 D (.dT []) = HC at invC invD rg rt rk rv first fpN fpC
  generalize eS : ({ sC with heap := pushCells (sC.heap.push { cls := .type "dict", data := .dict #[] }) scope.names } : Shared) = sD at invD ⊢
  have stD : tn 0 sD.heap := walk.keep _ _ _ stC fun b _ o e => by rw [← eS]; exact pushCells_keeps _ _ _ _ (Heap.get?_push_of_some _ e)
  have keep : ∀ {σ2 : L2.St} {H2 : Hp} {s2 : Shared}, Inv (X.blk sC HC scope env fp) [] σ2 H2 s2 → (∀ b ∈ fp, H2 b = none) → ∀ b ∈ fp, FpOk (X.blk sC HC scope env fp) [] H2 b := fun {σ2 H2 s2} i2 n2 b hb =>
    ⟨n2 b hb, (i2.ok.exf b hb).1, i2.ok.exfs b hb, .inl hb, fun x c e => (i2.ok.exf b hb).2 x c e, fun p hp => absurd (show p ∈ ([] : List (Addr × Obj)) ++ [] from hp) (by simp)⟩
  have round : codeAny (model X.prog X.w) X.A (.compLoop (.DictComp kx vx [⟨tg, iter, ifs, 0⟩] scope pos) 0 (.ref it) (.ref D) env) (compPost (model X.prog X.w) X.A X.xe none (EP X ps σ Q) (.ref D) sC.heap.objs.size) sD := by
    refine compLoop_anyD (fun n s2 => ∃ i H2, Inv (X.blk sC HC scope env fp) [] (wipe σ (own.map (·.2))) H2 s2 ∧ tn i s2.heap ∧ (∀ b ∈ fp, H2 b = none) ∧ W i n H2) ?_ m0 ⟨0, HC, invD, stD, fpN, first⟩
    rintro n s2 ⟨i, H2, i2, st2, n2, w2⟩
    rcases each i n H2 w2 with ⟨ends, out⟩ | ⟨goes, nxt, down, lap⟩
    · refine thnF (walk.done (X.blk sC HC scope env fp) rfl rfl rfl calm i [] s2 _ H2 (fun _ _ => False) i2 (keep i2 n2) st2 ends) fun r s3 ⟨er, i3⟩ => ?_
      subst er
      have back : Inv X ps σ H2 s3 := invC.call' (ch := fp) i3.os i3.base i3.hok i3.bare fun b hb => ⟨(fpC b hb).1.2.2.2.1, (fpC b hb).1.2.1, (fpC b hb).1.2.2.2.2.1, (fpC b hb).1.2.2.2.2.2⟩
      have gone : H2 sC.heap.objs.size = none := by
        have z : H2 env.locals = none := i3.free
        rw [locE] at z
        exact z
      obtain ⟨mm, ns, _⟩ := i3.loc
      have ns : s3.heap.Ns env.locals mm := ns
      rw [locE] at ns
      have f := invC.fpOk (Nat.le_refl _) gone
      obtain ⟨f0, f1, f2, f3, f4, f5⟩ := (show FpOk X ps H2 sC.heap.objs.size from f)
      exact ⟨mm, ns, fun h2 sb => ⟨.ref D, H2, back.turned (t' := s3.toks) (fun b o hb e => (sb.2 b hb).trans e) f0 f1 f3 f4 f5, rfl, out⟩⟩
    · refine thnF (walk.item (X.blk sC HC scope env fp) rfl rfl rfl calm i [] s2 _ H2 (fun _ _ => False) i2 (keep i2 n2) st2 goes) fun r s3 ⟨u, er, h3⟩ => ?_
      subst er
      refine thnF h3 fun _ s4 ⟨x, H4, i4, r4, y4, st4, n4⟩ => ?_
      have p4 := i4.pinned (keep i4 n4) (walk.obj _ _ st4)
      refine thnF (rg.run _ s4 _ H4 x u _ p4 r4 (lap x H4 y4)) fun _ s5 ⟨σ5, H5, i5, hw5, t5⟩ => ?_
      refine thnF (rt.run _ s5 σ5 H5 _ i5 t5) fun yes s6 ⟨H6, i6, t6⟩ => ?_
      have shut : ∀ {s9 : Shared} {H9 : Hp}, Inv (X.blk sC HC scope env fp) ([] ++ pinsAt fp s4.heap) σ5 H9 s9 → nxt H9 → ∃ m2, m2 < n ∧ ∃ i H2, Inv (X.blk sC HC scope env fp) [] (wipe σ (own.map (·.2))) H2 s9 ∧ tn i s9.heap ∧ (∀ b ∈ fp, H2 b = none) ∧ W i m2 H2 := fun {s9 H9} i9 nx => by
        obtain ⟨m2, lt, w9⟩ := down H9 nx
        have pin : ∀ b ∈ fp, ∀ o, s4.heap.get? b = some o → s9.heap.get? b = some o ∧ H9 b = none := fun b hb o e =>
          have z := i9.pin (b, o) (List.mem_append_right _ (List.mem_append_right _ (mem_pinsAt hb e)))
          ⟨z.1, z.2.1⟩
        have len : (wipe σ (own.map (·.2))).length = σ5.length := by rw [← hw5, wipe_length]
        refine ⟨m2, lt, i + 1, H9, (i9.unpinned (pins := [])).weak len (fun j v e => ?_), walk.keep _ _ _ st4 fun b hb o e => (pin b hb o e).1, fun b hb => ?_, w9⟩
        · rw [← hw5] at e
          exact (wipe_some e).1
        · obtain ⟨o, e, _⟩ := walk.obj _ _ st4 b hb
          exact (pin b hb o e).2
      cases yes with
      | false =>
        simp only [Bool.false_eq_true, if_false] at t6 ⊢
        exact shut i6 t6
      | true =>
        simp only [if_true] at t6 ⊢
        refine thnF (rk.run _ s6 σ5 H6 _ i6 t6) fun kv s7 ⟨yk, H7, i7, r7, t7⟩ => ?_
        refine thnF (rv.run _ s7 σ5 H7 _ i7 t7) fun vv s8 ⟨yv, H8, i8, r8, tab, ks, a, ek, ea, e8, few, nx⟩ => ?_
        subst ek
        cases (show kv = Value.ref a from r7)
        exact putTup (X := X.blk sC HC scope env fp) room i8 e8 ea few r8 fun s9 i9 => shut i9 nx
  exact codeAny_compStart_dict round (walk.self X.A 0 _ _ _ stD round)
theorem dcT_it {J : It} {n : Nat} {G : Hp → Prop} {Y : Nat → Hp → V → Hp → Prop} (w : Walk J n G Y) {g : TG} {tt : TT} {tk tv : TE} {vs : List Nat} {σ : L2.St} {H0 : Hp} {D : Addr} {out : Hp → Prop} (R : Nat → Hp → Prop) (begins : R 0 (upd H0 D (.dT []))) (good : ∀ i H, i ≤ n → R i H → G H)
    (lap : ∀ i x H H', i < n → R i H → Y i H x H' → g x (wipe σ vs) H' fun σ2 H2 => wipe σ2 vs = wipe σ vs ∧ turnT D tt tk tv (R (i + 1)) σ2 H2) (ends : ∀ H, R n H → out H) :
    ∃ W : Nat → Nat → Hp → Prop, (∃ m, W 0 m (upd H0 D (.dT []))) ∧ ∀ i m H1, W i m H1 →
      (J.stop i H1 ∧ out H1) ∨ (J.go i H1 ∧ ∃ nxt : Hp → Prop, (∀ H2, nxt H2 → ∃ m2, m2 < m ∧ W (i + 1) m2 H2) ∧ ∀ x H2, J.yld i H1 x H2 → g x (wipe σ vs) H2 fun σ2 H3 => wipe σ2 vs = wipe σ vs ∧ turnT D tt tk tv nxt σ2 H3) := by
  refine ⟨fun i m H => m + i = n ∧ R i H, ⟨n, rfl, begins⟩, fun i m H1 ⟨e, r⟩ => ?_⟩
  have gH := good i H1 (by omega) r
  cases m with
  | zero =>
    obtain rfl : i = n := by omega
    exact .inl ⟨w.stops H1 gH, ends H1 r⟩
  | succ m => exact .inr ⟨w.goes i H1 (by omega) gH, R (i + 1), fun H2 r2 => ⟨m, Nat.lt_succ_self m, by omega, r2⟩, fun x H2 y => lap i x H1 H2 (by omega) r (w.yields i H1 x H2 (by omega) gH y)⟩
end
end Gq
/-! Methods that raise. -/
namespace Gx
open PySem PySem.Spec PyProof.Rows L2 Gd
theorem pe_or {X : Cx} {e : Expr} {t u : TE} (a : PE X e t) (b : PE X e u) : PE X e (fun σ H Q => t σ H Q ∨ u σ H Q) := ⟨fun pins s σ H Q I h => h.elim (a.run pins s σ H Q I) (b.run pins s σ H Q I)⟩
/-- a method that may raise -/
structure MetX (P : Program) (w : World) (K : PySem.W.Frag) (mg : Str → Option Value) (base : Heap) (k : Nat) (C : Addr) (m : Str) (sp : Sp) : Prop where
  ex : ∃ (f : Addr) (fd : FuncData) (ps : List Str), Cls K C ∧ Meth K C m f ∧ FnOk P w K mg base (L2.CX P w) k f fd ps sp ∧ Binds K fd ps []
def tMethX (C : Addr) (m : Str) (sp : Sp) (E : L2.St → XK) (ta : TE) (t : TA) : TE := fun σ H Q => ta σ H fun x H1 => ∃ a dx fs, x = .ref a ∧ H1 a = some (.ins C dx fs) ∧ fs.lookup m = none ∧ t σ H1 fun vs H2 => sp (x :: vs) H2 Q (E σ)
section
variable {X : Cx} {k j : Nat} {C : Addr} {m : Str} {sp : Sp} {pos apos : Pos} {e o : Expr} {es : List Expr} {ta : TE} {t : TA}
theorem pe_mtX {W : WX} {pl : Sem Bool} (c : MetX X.prog X.w X.K X.mg X.base k C m sp) (hr : Room j X.A) (hk : k ≤ j) (tk : Takes X W) (he : PE X o ta) (ha : PA X (e :: es) t)
    (hst : starEach (e :: es) X.env = (false, eval e X.env) :: starEach es X.env := by rfl) (hpl : (backTo pos (starEach es X.env)).any (·.1) = false := by rfl)
    (ht : eval (.Call (.Attribute o m apos) (e :: es) [] pos) X.env = (do
      let ov ← eval o X.env
      standAt apos.atName
      let (f, first) ← holding [ov] (getMethod ov m pl)
      callWith pos f first (backTo pos (starEach (e :: es) X.env)) (backToKw pos (keywordEach [] X.env))) := by rfl) :
    PE X (.Call (.Attribute o m apos) (e :: es) [] pos) (tMethX C m sp (WE W) ta t) := by
  obtain ⟨f, fd, ps, hc, hm, F, b⟩ := c.ex
  refine ⟨fun pins s σ H Q I h => ?_⟩
  refine PySem.W.methodCall_KW (pl := pl) (thn (he.run pins s σ H _ I h) fun u s1 ⟨x, H1, I1, rx, a, dx, fs, ex, ea, l, q⟩ => ?_) ht
  subst ex
  obtain rfl : u = Value.ref a := rx
  refine getmeth_ok I1 ea hc hm l ?_
  refine PySem.W.callWith_K (first := [.ref a]) (h₀ := X.base) I.ok.mod.kin hm.kp (thn (ha.run pos pins s1 σ H1 _ I1 q) fun us s2 ⟨vs, H2, I2, r, q2⟩ => ⟨I2.kIn, ?_⟩) hst hpl
  exact run_fnS (us := .ref a :: us) (vs := .ref a :: vs) F (hr.mono hk) b (passAt tk σ) I2 (.cons rfl r) q2
/-- where it raises nothing -/
theorem pe_mtN {pl : Sem Bool} (c : MetX X.prog X.w X.K X.mg X.base k C m sp) (hr : Room j X.A) (hk : k ≤ j) (he : PE X o ta) (ha : PA X (e :: es) t)
    (hst : starEach (e :: es) X.env = (false, eval e X.env) :: starEach es X.env := by rfl) (hpl : (backTo pos (starEach es X.env)).any (·.1) = false := by rfl)
    (ht : eval (.Call (.Attribute o m apos) (e :: es) [] pos) X.env = (do
      let ov ← eval o X.env
      standAt apos.atName
      let (f, first) ← holding [ov] (getMethod ov m pl)
      callWith pos f first (backTo pos (starEach (e :: es) X.env)) (backToKw pos (keywordEach [] X.env))) := by rfl) :
    PE X (.Call (.Attribute o m apos) (e :: es) [] pos) (tMeth C m sp [] E0 ta t) := by
  obtain ⟨f, fd, ps, hc, hm, F, b⟩ := c.ex
  exact pe_meth (pl := pl) he hc hm F (hr.mono hk) b .nil passL ha hst hpl ht
end
end Gx
set_option maxHeartbeats 1000000
namespace K46
open PySem PySem.Spec PyProof.Rows L2 Gd
open C8 (clsBody Met pe_mt pe_mt0)
def topS (i : Nat) : Stmt := PySem.Challenge.pw_makeskept_k46_boxed_makes_let_go.main.body.getD i (.Pass ⟨0, 0, 0, 0⟩)
abbrev s__wall : Stmt := topS 0
abbrev s_found_by_halving : Stmt := topS 2
abbrev s_is_whole : Stmt := topS 18
abbrev s_is_worth : Stmt := topS 19
abbrev s_is_worths : Stmt := topS 20
abbrev s_is_changes : Stmt := topS 21
abbrev s__is_change : Stmt := topS 22
abbrev s__first_of_runs : Stmt := topS 32
abbrev s__law_cell_at : Stmt := topS 34
abbrev s__law_box : Stmt := topS 35
abbrev s__law_take : Stmt := topS 36
abbrev s__law_worth : Stmt := topS 37
abbrev s__law_worths : Stmt := topS 38
abbrev s__law_model : Stmt := topS 39
abbrev s__law_written : Stmt := topS 40
abbrev s__law_one_of : Stmt := topS 41
abbrev s__law_last : Stmt := topS 42
abbrev s__law_put : Stmt := topS 43
abbrev s__law_come : Stmt := topS 44
abbrev s__law_runs : Stmt := topS 45
abbrev s__law_reads : Stmt := topS 46
abbrev s__law_caught : Stmt := topS 47
abbrev s__law_told : Stmt := topS 48
abbrev s__law_ask : Stmt := topS 49
abbrev s__law_bad_ask : Stmt := topS 50
abbrev s__law_asks_refused : Stmt := topS 51
abbrev s__law_let_go : Stmt := topS 52
abbrev s_law : Stmt := topS 53
abbrev s_NoRow___init__ : Stmt := (clsBody (topS 5)).getD 0 (.Pass ⟨0, 0, 0, 0⟩)
abbrev s_NoWorth___init__ : Stmt := (clsBody (topS 6)).getD 0 (.Pass ⟨0, 0, 0, 0⟩)
abbrev s_NoPlace___init__ : Stmt := (clsBody (topS 7)).getD 0 (.Pass ⟨0, 0, 0, 0⟩)
abbrev s_NoStretch___init__ : Stmt := (clsBody (topS 8)).getD 0 (.Pass ⟨0, 0, 0, 0⟩)
abbrev s_NoMake___init__ : Stmt := (clsBody (topS 9)).getD 0 (.Pass ⟨0, 0, 0, 0⟩)
abbrev s_NoNumber___init__ : Stmt := (clsBody (topS 10)).getD 0 (.Pass ⟨0, 0, 0, 0⟩)
abbrev s_NoChanges___init__ : Stmt := (clsBody (topS 11)).getD 0 (.Pass ⟨0, 0, 0, 0⟩)
abbrev s_TooMany___init__ : Stmt := (clsBody (topS 12)).getD 0 (.Pass ⟨0, 0, 0, 0⟩)
abbrev s_Alone___init__ : Stmt := (clsBody (topS 13)).getD 0 (.Pass ⟨0, 0, 0, 0⟩)
abbrev s_MakeTree___init__ : Stmt := (clsBody (topS 25)).getD 0 (.Pass ⟨0, 0, 0, 0⟩)
abbrev s_MakeTree_many : Stmt := (clsBody (topS 25)).getD 1 (.Pass ⟨0, 0, 0, 0⟩)
abbrev s_MakeTree_grow : Stmt := (clsBody (topS 25)).getD 2 (.Pass ⟨0, 0, 0, 0⟩)
abbrev s_MakeTree_own : Stmt := (clsBody (topS 25)).getD 3 (.Pass ⟨0, 0, 0, 0⟩)
abbrev s_MakeTree_depth : Stmt := (clsBody (topS 25)).getD 4 (.Pass ⟨0, 0, 0, 0⟩)
abbrev s_MakeTree_on : Stmt := (clsBody (topS 25)).getD 5 (.Pass ⟨0, 0, 0, 0⟩)
abbrev s_MakeTree_line : Stmt := (clsBody (topS 25)).getD 6 (.Pass ⟨0, 0, 0, 0⟩)
abbrev s_MakeTree_up : Stmt := (clsBody (topS 25)).getD 7 (.Pass ⟨0, 0, 0, 0⟩)
abbrev s_MakeTree_nearest : Stmt := (clsBody (topS 25)).getD 8 (.Pass ⟨0, 0, 0, 0⟩)
abbrev s_MakeTree_way : Stmt := (clsBody (topS 25)).getD 9 (.Pass ⟨0, 0, 0, 0⟩)
abbrev s_MakeTree_apart : Stmt := (clsBody (topS 25)).getD 10 (.Pass ⟨0, 0, 0, 0⟩)
abbrev s_MakeTree_copied : Stmt := (clsBody (topS 25)).getD 11 (.Pass ⟨0, 0, 0, 0⟩)
abbrev s_MakeTree__grown_alike : Stmt := (clsBody (topS 25)).getD 12 (.Pass ⟨0, 0, 0, 0⟩)
abbrev s_MakeTree__need_make : Stmt := (clsBody (topS 25)).getD 13 (.Pass ⟨0, 0, 0, 0⟩)
abbrev s_MakeTree__need_steps : Stmt := (clsBody (topS 25)).getD 14 (.Pass ⟨0, 0, 0, 0⟩)
abbrev s_LeapTree___init__ : Stmt := (clsBody (topS 27)).getD 0 (.Pass ⟨0, 0, 0, 0⟩)
abbrev s_LeapTree_grow : Stmt := (clsBody (topS 27)).getD 1 (.Pass ⟨0, 0, 0, 0⟩)
abbrev s_LeapTree_leaps : Stmt := (clsBody (topS 27)).getD 2 (.Pass ⟨0, 0, 0, 0⟩)
abbrev s_LeapTree_leap_way : Stmt := (clsBody (topS 27)).getD 3 (.Pass ⟨0, 0, 0, 0⟩)
abbrev s_LeapTree_copied : Stmt := (clsBody (topS 27)).getD 4 (.Pass ⟨0, 0, 0, 0⟩)
abbrev s_LeapTree__leaps_through : Stmt := (clsBody (topS 27)).getD 5 (.Pass ⟨0, 0, 0, 0⟩)
abbrev s_Rows___init__ : Stmt := (clsBody (topS 29)).getD 0 (.Pass ⟨0, 0, 0, 0⟩)
abbrev s_Rows_way : Stmt := (clsBody (topS 29)).getD 1 (.Pass ⟨0, 0, 0, 0⟩)
abbrev s_Rows_room : Stmt := (clsBody (topS 29)).getD 2 (.Pass ⟨0, 0, 0, 0⟩)
abbrev s_Rows_copied : Stmt := (clsBody (topS 29)).getD 3 (.Pass ⟨0, 0, 0, 0⟩)
abbrev s_Rows_begin : Stmt := (clsBody (topS 29)).getD 4 (.Pass ⟨0, 0, 0, 0⟩)
abbrev s_Rows_store : Stmt := (clsBody (topS 29)).getD 5 (.Pass ⟨0, 0, 0, 0⟩)
abbrev s_Rows_need_new : Stmt := (clsBody (topS 29)).getD 6 (.Pass ⟨0, 0, 0, 0⟩)
abbrev s_Rows_looked : Stmt := (clsBody (topS 29)).getD 7 (.Pass ⟨0, 0, 0, 0⟩)
abbrev s_Rows_worths_in : Stmt := (clsBody (topS 29)).getD 8 (.Pass ⟨0, 0, 0, 0⟩)
abbrev s_Rows_freed : Stmt := (clsBody (topS 29)).getD 9 (.Pass ⟨0, 0, 0, 0⟩)
abbrev s_Rows_size : Stmt := (clsBody (topS 29)).getD 10 (.Pass ⟨0, 0, 0, 0⟩)
abbrev s_Rows_many : Stmt := (clsBody (topS 29)).getD 11 (.Pass ⟨0, 0, 0, 0⟩)
abbrev s_Rows_makes : Stmt := (clsBody (topS 29)).getD 12 (.Pass ⟨0, 0, 0, 0⟩)
abbrev s_Rows_tree : Stmt := (clsBody (topS 29)).getD 13 (.Pass ⟨0, 0, 0, 0⟩)
abbrev s_Rows_place_of : Stmt := (clsBody (topS 29)).getD 14 (.Pass ⟨0, 0, 0, 0⟩)
abbrev s_Rows_writer : Stmt := (clsBody (topS 29)).getD 15 (.Pass ⟨0, 0, 0, 0⟩)
abbrev s_Rows_put : Stmt := (clsBody (topS 29)).getD 16 (.Pass ⟨0, 0, 0, 0⟩)
abbrev s_Rows_put_all : Stmt := (clsBody (topS 29)).getD 17 (.Pass ⟨0, 0, 0, 0⟩)
abbrev s_Rows_at : Stmt := (clsBody (topS 29)).getD 18 (.Pass ⟨0, 0, 0, 0⟩)
abbrev s_Rows_row : Stmt := (clsBody (topS 29)).getD 19 (.Pass ⟨0, 0, 0, 0⟩)
abbrev s_Rows_stretch : Stmt := (clsBody (topS 29)).getD 20 (.Pass ⟨0, 0, 0, 0⟩)
abbrev s_Rows_let_go : Stmt := (clsBody (topS 29)).getD 21 (.Pass ⟨0, 0, 0, 0⟩)
abbrev s_Rows_steps : Stmt := (clsBody (topS 29)).getD 22 (.Pass ⟨0, 0, 0, 0⟩)
abbrev s_Rows_add_steps : Stmt := (clsBody (topS 29)).getD 23 (.Pass ⟨0, 0, 0, 0⟩)
abbrev s_Rows_need_make : Stmt := (clsBody (topS 29)).getD 24 (.Pass ⟨0, 0, 0, 0⟩)
abbrev s_Rows_need_place : Stmt := (clsBody (topS 29)).getD 25 (.Pass ⟨0, 0, 0, 0⟩)
abbrev s_Rows_need_stretch : Stmt := (clsBody (topS 29)).getD 26 (.Pass ⟨0, 0, 0, 0⟩)
abbrev s_Rows_same_makes : Stmt := (clsBody (topS 29)).getD 27 (.Pass ⟨0, 0, 0, 0⟩)
abbrev s_Rows__up_to_writer : Stmt := (clsBody (topS 29)).getD 28 (.Pass ⟨0, 0, 0, 0⟩)
abbrev s_Rows__needed_no_more : Stmt := (clsBody (topS 29)).getD 29 (.Pass ⟨0, 0, 0, 0⟩)
abbrev s_Rows__row_writers : Stmt := (clsBody (topS 29)).getD 30 (.Pass ⟨0, 0, 0, 0⟩)
abbrev s_Rows__row_put : Stmt := (clsBody (topS 29)).getD 31 (.Pass ⟨0, 0, 0, 0⟩)
abbrev s_Rows__row_need_room_for : Stmt := (clsBody (topS 29)).getD 32 (.Pass ⟨0, 0, 0, 0⟩)
abbrev s_Rows__row_need_there : Stmt := (clsBody (topS 29)).getD 33 (.Pass ⟨0, 0, 0, 0⟩)
abbrev s_Boxed_way : Stmt := (clsBody (topS 31)).getD 0 (.Pass ⟨0, 0, 0, 0⟩)
abbrev s_Boxed_room : Stmt := (clsBody (topS 31)).getD 1 (.Pass ⟨0, 0, 0, 0⟩)
abbrev s_Boxed_copied : Stmt := (clsBody (topS 31)).getD 2 (.Pass ⟨0, 0, 0, 0⟩)
abbrev s_Boxed_in_order : Stmt := (clsBody (topS 31)).getD 3 (.Pass ⟨0, 0, 0, 0⟩)
abbrev s_Boxed_box : Stmt := (clsBody (topS 31)).getD 4 (.Pass ⟨0, 0, 0, 0⟩)
abbrev s_Boxed_let_go : Stmt := (clsBody (topS 31)).getD 5 (.Pass ⟨0, 0, 0, 0⟩)
abbrev s_Boxed_begin : Stmt := (clsBody (topS 31)).getD 6 (.Pass ⟨0, 0, 0, 0⟩)
abbrev s_Boxed_store : Stmt := (clsBody (topS 31)).getD 7 (.Pass ⟨0, 0, 0, 0⟩)
abbrev s_Boxed_looked : Stmt := (clsBody (topS 31)).getD 8 (.Pass ⟨0, 0, 0, 0⟩)
abbrev s_Boxed_freed : Stmt := (clsBody (topS 31)).getD 9 (.Pass ⟨0, 0, 0, 0⟩)
abbrev s_Boxed__found : Stmt := (clsBody (topS 31)).getD 10 (.Pass ⟨0, 0, 0, 0⟩)
abbrev s_Boxed__turn_of_each : Stmt := (clsBody (topS 31)).getD 11 (.Pass ⟨0, 0, 0, 0⟩)
theorem sc_MakeTree___init__ : FnScope ["self"] ["self"] (defScope s_MakeTree___init__) := ⟨rfl, rfl, rfl, by decide +kernel, rfl, by decide +kernel, by decide +kernel⟩
theorem sc_MakeTree_many : FnScope ["self"] ["self"] (defScope s_MakeTree_many) := ⟨rfl, rfl, rfl, by decide +kernel, rfl, by decide +kernel, by decide +kernel⟩
theorem sc_MakeTree_grow : FnScope ["self", "make", "number"] ["self", "make"] (defScope s_MakeTree_grow) := ⟨rfl, rfl, rfl, by decide +kernel, rfl, by decide +kernel, by decide +kernel⟩
theorem sc_MakeTree_own : FnScope ["self", "make"] ["self", "make"] (defScope s_MakeTree_own) := ⟨rfl, rfl, rfl, by decide +kernel, rfl, by decide +kernel, by decide +kernel⟩
theorem sc_MakeTree_depth : FnScope ["self", "make"] ["self", "make"] (defScope s_MakeTree_depth) := ⟨rfl, rfl, rfl, by decide +kernel, rfl, by decide +kernel, by decide +kernel⟩
theorem sc_MakeTree_on : FnScope ["self", "make"] ["self", "make"] (defScope s_MakeTree_on) := ⟨rfl, rfl, rfl, by decide +kernel, rfl, by decide +kernel, by decide +kernel⟩
theorem sc_MakeTree_line : FnScope ["self", "make", "line"] ["self", "make"] (defScope s_MakeTree_line) := ⟨rfl, rfl, rfl, by decide +kernel, rfl, by decide +kernel, by decide +kernel⟩
theorem sc_MakeTree_up : FnScope ["self", "make", "steps"] ["self", "make", "steps"] (defScope s_MakeTree_up) := ⟨rfl, rfl, rfl, by decide +kernel, rfl, by decide +kernel, by decide +kernel⟩
theorem sc_MakeTree_nearest : FnScope ["self", "one", "other"] ["self", "one", "other"] (defScope s_MakeTree_nearest) := ⟨rfl, rfl, rfl, by decide +kernel, rfl, by decide +kernel, by decide +kernel⟩
theorem sc_MakeTree_way : FnScope ["self", "one", "other", "depth", "up", "down"] ["self", "one", "other"] (defScope s_MakeTree_way) := ⟨rfl, rfl, rfl, by decide +kernel, rfl, by decide +kernel, by decide +kernel⟩
theorem sc_MakeTree_apart : FnScope ["self", "one", "other"] ["self", "one", "other"] (defScope s_MakeTree_apart) := ⟨rfl, rfl, rfl, by decide +kernel, rfl, by decide +kernel, by decide +kernel⟩
theorem sc_MakeTree_copied : FnScope ["self"] ["self"] (defScope s_MakeTree_copied) := ⟨rfl, rfl, rfl, by decide +kernel, rfl, by decide +kernel, by decide +kernel⟩
theorem sc_MakeTree__grown_alike : FnScope ["self", "other", "own"] ["self", "other"] (defScope s_MakeTree__grown_alike) := ⟨rfl, rfl, rfl, by decide +kernel, rfl, by decide +kernel, by decide +kernel⟩
theorem sc_MakeTree__need_make : FnScope ["self", "make"] ["self", "make"] (defScope s_MakeTree__need_make) := ⟨rfl, rfl, rfl, by decide +kernel, rfl, by decide +kernel, by decide +kernel⟩
theorem sc_MakeTree__need_steps : FnScope ["self", "make", "steps"] ["self", "make", "steps"] (defScope s_MakeTree__need_steps) := ⟨rfl, rfl, rfl, by decide +kernel, rfl, by decide +kernel, by decide +kernel⟩
theorem sc_LeapTree_leaps : FnScope ["self", "make"] ["self", "make"] (defScope s_LeapTree_leaps) := ⟨rfl, rfl, rfl, by decide +kernel, rfl, by decide +kernel, by decide +kernel⟩
theorem sc_LeapTree_leap_way : FnScope ["self", "make", "steps"] ["self", "make", "steps"] (defScope s_LeapTree_leap_way) := ⟨rfl, rfl, rfl, by decide +kernel, rfl, by decide +kernel, by decide +kernel⟩
theorem sc_LeapTree_copied : FnScope ["self"] ["self"] (defScope s_LeapTree_copied) := ⟨rfl, rfl, rfl, by decide +kernel, rfl, by decide +kernel, by decide +kernel⟩
theorem sc_LeapTree__leaps_through : FnScope ["self", "own", "leaps"] ["self", "own"] (defScope s_LeapTree__leaps_through) := ⟨rfl, rfl, rfl, by decide +kernel, rfl, by decide +kernel, by decide +kernel⟩
theorem sc_Rows___init__ : FnScope ["self", "worths"] ["self", "worths"] (defScope s_Rows___init__) := ⟨rfl, rfl, rfl, by decide +kernel, rfl, by decide +kernel, by decide +kernel⟩
theorem sc_Rows_way : FnScope ["self"] ["self"] (defScope s_Rows_way) := ⟨rfl, rfl, rfl, by decide +kernel, rfl, by decide +kernel, by decide +kernel⟩
theorem sc_Rows_room : FnScope ["self"] ["self"] (defScope s_Rows_room) := ⟨rfl, rfl, rfl, by decide +kernel, rfl, by decide +kernel, by decide +kernel⟩
theorem sc_Rows_copied : FnScope ["self"] ["self"] (defScope s_Rows_copied) := ⟨rfl, rfl, rfl, by decide +kernel, rfl, by decide +kernel, by decide +kernel⟩
theorem sc_Rows_begin : FnScope ["self", "worths"] ["self", "worths"] (defScope s_Rows_begin) := ⟨rfl, rfl, rfl, by decide +kernel, rfl, by decide +kernel, by decide +kernel⟩
theorem sc_Rows_store : FnScope ["self", "make", "number", "place", "worth"] ["self", "make", "number", "place", "worth"] (defScope s_Rows_store) := ⟨rfl, rfl, rfl, by decide +kernel, rfl, by decide +kernel, by decide +kernel⟩
theorem sc_Rows_need_new : FnScope ["self", "make"] ["self", "make"] (defScope s_Rows_need_new) := ⟨rfl, rfl, rfl, by decide +kernel, rfl, by decide +kernel, by decide +kernel⟩
theorem sc_Rows_looked : FnScope ["self", "make", "place"] ["self", "make", "place"] (defScope s_Rows_looked) := ⟨rfl, rfl, rfl, by decide +kernel, rfl, by decide +kernel, by decide +kernel⟩
theorem sc_Rows_worths_in : FnScope ["self", "make", "low", "high", "place"] ["self", "make", "low", "high"] (defScope s_Rows_worths_in) := ⟨rfl, rfl, rfl, by decide +kernel, rfl, by decide +kernel, by decide +kernel⟩
theorem sc_Rows_freed : FnScope ["self", "make"] ["self", "make"] (defScope s_Rows_freed) := ⟨rfl, rfl, rfl, by decide +kernel, rfl, by decide +kernel, by decide +kernel⟩
theorem sc_Rows_size : FnScope ["self"] ["self"] (defScope s_Rows_size) := ⟨rfl, rfl, rfl, by decide +kernel, rfl, by decide +kernel, by decide +kernel⟩
theorem sc_Rows_many : FnScope ["self"] ["self"] (defScope s_Rows_many) := ⟨rfl, rfl, rfl, by decide +kernel, rfl, by decide +kernel, by decide +kernel⟩
theorem sc_Rows_makes : FnScope ["self"] ["self"] (defScope s_Rows_makes) := ⟨rfl, rfl, rfl, by decide +kernel, rfl, by decide +kernel, by decide +kernel⟩
theorem sc_Rows_tree : FnScope ["self"] ["self"] (defScope s_Rows_tree) := ⟨rfl, rfl, rfl, by decide +kernel, rfl, by decide +kernel, by decide +kernel⟩
theorem sc_Rows_place_of : FnScope ["self", "make"] ["self", "make"] (defScope s_Rows_place_of) := ⟨rfl, rfl, rfl, by decide +kernel, rfl, by decide +kernel, by decide +kernel⟩
theorem sc_Rows_writer : FnScope ["self", "make", "place"] ["self", "make", "place"] (defScope s_Rows_writer) := ⟨rfl, rfl, rfl, by decide +kernel, rfl, by decide +kernel, by decide +kernel⟩
theorem sc_Rows_put : FnScope ["self", "make", "place", "worth"] ["self", "make", "place", "worth"] (defScope s_Rows_put) := ⟨rfl, rfl, rfl, by decide +kernel, rfl, by decide +kernel, by decide +kernel⟩
theorem sc_Rows_put_all : FnScope ["self", "make", "changes", "numbers", "on", "place", "worth"] ["self", "make", "changes"] (defScope s_Rows_put_all) := ⟨rfl, rfl, rfl, by decide +kernel, rfl, by decide +kernel, by decide +kernel⟩
theorem sc_Rows_at : FnScope ["self", "make", "place"] ["self", "make", "place"] (defScope s_Rows_at) := ⟨rfl, rfl, rfl, by decide +kernel, rfl, by decide +kernel, by decide +kernel⟩
theorem sc_Rows_row : FnScope ["self", "make"] ["self", "make"] (defScope s_Rows_row) := ⟨rfl, rfl, rfl, by decide +kernel, rfl, by decide +kernel, by decide +kernel⟩
theorem sc_Rows_stretch : FnScope ["self", "make", "low", "high"] ["self", "make", "low", "high"] (defScope s_Rows_stretch) := ⟨rfl, rfl, rfl, by decide +kernel, rfl, by decide +kernel, by decide +kernel⟩
theorem sc_Rows_let_go : FnScope ["self", "make"] ["self", "make"] (defScope s_Rows_let_go) := ⟨rfl, rfl, rfl, by decide +kernel, rfl, by decide +kernel, by decide +kernel⟩
theorem sc_Rows_steps : FnScope ["self"] ["self"] (defScope s_Rows_steps) := ⟨rfl, rfl, rfl, by decide +kernel, rfl, by decide +kernel, by decide +kernel⟩
theorem sc_Rows_add_steps : FnScope ["self", "many"] ["self", "many"] (defScope s_Rows_add_steps) := ⟨rfl, rfl, rfl, by decide +kernel, rfl, by decide +kernel, by decide +kernel⟩
theorem sc_Rows_need_make : FnScope ["self", "make"] ["self", "make"] (defScope s_Rows_need_make) := ⟨rfl, rfl, rfl, by decide +kernel, rfl, by decide +kernel, by decide +kernel⟩
theorem sc_Rows_need_place : FnScope ["self", "place"] ["self", "place"] (defScope s_Rows_need_place) := ⟨rfl, rfl, rfl, by decide +kernel, rfl, by decide +kernel, by decide +kernel⟩
theorem sc_Rows_need_stretch : FnScope ["self", "low", "high"] ["self", "low", "high"] (defScope s_Rows_need_stretch) := ⟨rfl, rfl, rfl, by decide +kernel, rfl, by decide +kernel, by decide +kernel⟩
theorem sc_Rows_same_makes : FnScope ["self", "other"] ["self", "other"] (defScope s_Rows_same_makes) := ⟨rfl, rfl, rfl, by decide +kernel, rfl, by decide +kernel, by decide +kernel⟩
theorem sc_Rows__up_to_writer : FnScope ["self", "make", "place", "makes"] ["self", "make", "place"] (defScope s_Rows__up_to_writer) := ⟨rfl, rfl, rfl, by decide +kernel, rfl, by decide +kernel, by decide +kernel⟩
theorem sc_Rows__needed_no_more : FnScope ["self", "make", "kept", "writes", "place", "writer", "other", "writers"] ["self", "make"] (defScope s_Rows__needed_no_more) := ⟨rfl, rfl, rfl, by decide +kernel, rfl, by decide +kernel, by decide +kernel⟩
theorem sc_Rows__row_writers : FnScope ["self", "make", "writers", "number"] ["self", "make"] (defScope s_Rows__row_writers) := ⟨rfl, rfl, rfl, by decide +kernel, rfl, by decide +kernel, by decide +kernel⟩
theorem sc_Rows__row_put : FnScope ["self", "make", "place", "worth", "number"] ["self", "make", "place", "worth"] (defScope s_Rows__row_put) := ⟨rfl, rfl, rfl, by decide +kernel, rfl, by decide +kernel, by decide +kernel⟩
theorem sc_Rows__row_need_room_for : FnScope ["self", "more", "many"] ["self", "more"] (defScope s_Rows__row_need_room_for) := ⟨rfl, rfl, rfl, by decide +kernel, rfl, by decide +kernel, by decide +kernel⟩
theorem sc_Rows__row_need_there : FnScope ["self", "make"] ["self", "make"] (defScope s_Rows__row_need_there) := ⟨rfl, rfl, rfl, by decide +kernel, rfl, by decide +kernel, by decide +kernel⟩
theorem sc_Boxed_way : FnScope ["self"] ["self"] (defScope s_Boxed_way) := ⟨rfl, rfl, rfl, by decide +kernel, rfl, by decide +kernel, by decide +kernel⟩
theorem sc_Boxed_room : FnScope ["self", "box"] ["self"] (defScope s_Boxed_room) := ⟨rfl, rfl, rfl, by decide +kernel, rfl, by decide +kernel, by decide +kernel⟩
theorem sc_Boxed_copied : FnScope ["self", "other", "box"] ["self"] (defScope s_Boxed_copied) := ⟨rfl, rfl, rfl, by decide +kernel, rfl, by decide +kernel, by decide +kernel⟩
theorem sc_Boxed_in_order : FnScope ["self"] ["self"] (defScope s_Boxed_in_order) := ⟨rfl, rfl, rfl, by decide +kernel, rfl, by decide +kernel, by decide +kernel⟩
theorem sc_Boxed_box : FnScope ["self", "place"] ["self", "place"] (defScope s_Boxed_box) := ⟨rfl, rfl, rfl, by decide +kernel, rfl, by decide +kernel, by decide +kernel⟩
theorem sc_Boxed_begin : FnScope ["self", "worths", "worth"] ["self", "worths"] (defScope s_Boxed_begin) := ⟨rfl, rfl, rfl, by decide +kernel, rfl, by decide +kernel, by decide +kernel⟩
theorem sc_Boxed_store : FnScope ["self", "make", "number", "place", "worth", "turns", "at"] ["self", "make", "number", "place", "worth"] (defScope s_Boxed_store) := ⟨rfl, rfl, rfl, by decide +kernel, rfl, by decide +kernel, by decide +kernel⟩
theorem sc_Boxed_looked : FnScope ["self", "make", "place"] ["self", "make", "place"] (defScope s_Boxed_looked) := ⟨rfl, rfl, rfl, by decide +kernel, rfl, by decide +kernel, by decide +kernel⟩
theorem sc_Boxed_freed : FnScope ["self", "make", "at", "boxes", "place", "turns"] ["self", "make"] (defScope s_Boxed_freed) := ⟨rfl, rfl, rfl, by decide +kernel, rfl, by decide +kernel, by decide +kernel⟩
theorem sc_Boxed__found : FnScope ["self", "make", "place", "at", "stands", "box", "steps", "number", "turn"] ["self", "make", "place"] (defScope s_Boxed__found) := ⟨rfl, rfl, rfl, by decide +kernel, rfl, by decide +kernel, by decide +kernel⟩
theorem sc_Boxed__turn_of_each : FnScope ["self", "place", "box", "turn", "begins", "turns", "make"] ["self", "place"] (defScope s_Boxed__turn_of_each) := ⟨rfl, rfl, rfl, by decide +kernel, rfl, by decide +kernel, by decide +kernel⟩
theorem sc__wall : FnScope ["k"] ["k"] (defScope s__wall) := ⟨rfl, rfl, rfl, by decide +kernel, rfl, by decide +kernel, by decide +kernel⟩
theorem sc_found_by_halving : FnScope ["stands", "stand", "begin", "end", "steps", "middle"] ["stands", "stand"] (defScope s_found_by_halving) := ⟨rfl, rfl, rfl, by decide +kernel, rfl, by decide +kernel, by decide +kernel⟩
theorem sc_is_whole : FnScope ["thing", "low", "high"] ["thing", "low", "high"] (defScope s_is_whole) := ⟨rfl, rfl, rfl, by decide +kernel, rfl, by decide +kernel, by decide +kernel⟩
theorem sc_is_worth : FnScope ["thing"] ["thing"] (defScope s_is_worth) := ⟨rfl, rfl, rfl, by decide +kernel, rfl, by decide +kernel, by decide +kernel⟩
theorem sc_is_worths : FnScope ["thing", "worth"] ["thing"] (defScope s_is_worths) := ⟨rfl, rfl, rfl, by decide +kernel, rfl, by decide +kernel, by decide +kernel⟩
theorem sc_is_changes : FnScope ["thing", "size", "change"] ["thing", "size"] (defScope s_is_changes) := ⟨rfl, rfl, rfl, by decide +kernel, rfl, by decide +kernel, by decide +kernel⟩
theorem sc__is_change : FnScope ["thing", "size"] ["thing", "size"] (defScope s__is_change) := ⟨rfl, rfl, rfl, by decide +kernel, rfl, by decide +kernel, by decide +kernel⟩
theorem sc__first_of_runs : FnScope ["turns", "at", "turn"] ["turns"] (defScope s__first_of_runs) := ⟨rfl, rfl, rfl, by decide +kernel, rfl, by decide +kernel, by decide +kernel⟩
theorem sc__law_cell_at : FnScope ["_law_script", "_law_k"] ["_law_script", "_law_k"] (defScope s__law_cell_at) := ⟨rfl, rfl, rfl, by decide +kernel, rfl, by decide +kernel, by decide +kernel⟩
theorem sc__law_box : FnScope ["_law_cell"] ["_law_cell"] (defScope s__law_box) := ⟨rfl, rfl, rfl, by decide +kernel, rfl, by decide +kernel, by decide +kernel⟩
theorem sc__law_take : FnScope ["_law_box_here", "_law_many", "_law_digit", "_law_number"] ["_law_box_here", "_law_many"] (defScope s__law_take) := ⟨rfl, rfl, rfl, by decide +kernel, rfl, by decide +kernel, by decide +kernel⟩
theorem sc__law_worth : FnScope ["_law_box_here", "_law_way", "_law_number"] ["_law_box_here"] (defScope s__law_worth) := ⟨rfl, rfl, rfl, by decide +kernel, rfl, by decide +kernel, by decide +kernel⟩
theorem sc__law_worths : FnScope ["_law_box_here", "_law_size", "_law_k"] ["_law_box_here"] (defScope s__law_worths) := ⟨rfl, rfl, rfl, by decide +kernel, rfl, by decide +kernel, by decide +kernel⟩
theorem sc__law_model : FnScope ["_law_worths_here"] ["_law_worths_here"] (defScope s__law_model) := ⟨rfl, rfl, rfl, by decide +kernel, rfl, by decide +kernel, by decide +kernel⟩
theorem sc__law_written : FnScope ["_law_model_here", "_law_make", "_law_place", "_law_worth_here", "_law_row"] ["_law_model_here", "_law_make", "_law_place", "_law_worth_here"] (defScope s__law_written) := ⟨rfl, rfl, rfl, by decide +kernel, rfl, by decide +kernel, by decide +kernel⟩
theorem sc__law_one_of : FnScope ["_law_box_here", "_law_some", "_law_way"] ["_law_box_here", "_law_some"] (defScope s__law_one_of) := ⟨rfl, rfl, rfl, by decide +kernel, rfl, by decide +kernel, by decide +kernel⟩
theorem sc__law_last : FnScope ["_law_model_here", "_law_make", "_law_place"] ["_law_model_here", "_law_make", "_law_place"] (defScope s__law_last) := ⟨rfl, rfl, rfl, by decide +kernel, rfl, by decide +kernel, by decide +kernel⟩
theorem sc__law_put : FnScope ["_law_box_here", "_law_model_here", "_law_size", "_law_make", "_law_place", "_law_worth_here"] ["_law_box_here", "_law_model_here", "_law_size"] (defScope s__law_put) := ⟨rfl, rfl, rfl, by decide +kernel, rfl, by decide +kernel, by decide +kernel⟩
theorem sc__law_come : FnScope ["_law_model_here", "_law_found", "_law_number"] ["_law_model_here"] (defScope s__law_come) := ⟨rfl, rfl, rfl, by decide +kernel, rfl, by decide +kernel, by decide +kernel⟩
theorem sc__law_runs : FnScope ["_law_model_here", "_law_place", "_law_found", "_law_make", "_law_writer"] ["_law_model_here", "_law_place"] (defScope s__law_runs) := ⟨rfl, rfl, rfl, by decide +kernel, rfl, by decide +kernel, by decide +kernel⟩
theorem sc__law_reads : FnScope ["_law_model_here", "_law_make", "_law_place"] ["_law_model_here", "_law_make"] (defScope s__law_reads) := ⟨rfl, rfl, rfl, by decide +kernel, rfl, by decide +kernel, by decide +kernel⟩
theorem sc__law_caught : FnScope ["_law_e"] ["_law_e"] (defScope s__law_caught) := ⟨rfl, rfl, rfl, by decide +kernel, rfl, by decide +kernel, by decide +kernel⟩
theorem sc__law_told : FnScope ["_law_boxed", "_law_make", "_law_found", "_law_e"] ["_law_boxed", "_law_make"] (defScope s__law_told) := ⟨rfl, rfl, rfl, by decide +kernel, rfl, by decide +kernel, by decide +kernel⟩
theorem sc__law_ask : FnScope ["_law_rows", "_law_way", "_law_things"] ["_law_rows", "_law_way", "_law_things"] (defScope s__law_ask) := ⟨rfl, rfl, rfl, by decide +kernel, rfl, by decide +kernel, by decide +kernel⟩
theorem sc__law_bad_ask : FnScope ["_law_box_here", "_law_rows", "_law_size", "_law_way", "_law_kept", "_law_lost", "_law_never", "_law_make", "_law_place", "_law_low", "_law_high", "_law_one"] ["_law_box_here", "_law_rows", "_law_size"] (defScope s__law_bad_ask) := ⟨rfl, rfl, rfl, by decide +kernel, rfl, by decide +kernel, by decide +kernel⟩
theorem sc__law_asks_refused : FnScope ["_law_box_here", "_law_rows", "_law_size", "_law_way", "_law_things", "_law_due", "_law_found", "_law_e"] ["_law_box_here", "_law_rows", "_law_size"] (defScope s__law_asks_refused) := ⟨rfl, rfl, rfl, by decide +kernel, rfl, by decide +kernel, by decide +kernel⟩
theorem sc__law_let_go : FnScope ["_law_boxed", "_law_model_here", "_law_make", "_law_mine", "_law_others", "_law_other", "_law_due", "_law_place", "_law_write"] ["_law_boxed", "_law_model_here", "_law_make"] (defScope s__law_let_go) := ⟨rfl, rfl, rfl, by decide +kernel, rfl, by decide +kernel, by decide +kernel⟩
theorem sc_law : FnScope ["_law_script", "_law_worths_here", "_law_boxed", "_law_model_here", "_law_size", "_law_k", "_law_make", "_law_place", "_law_worth_here", "_law_box_here", "_law_line", "_law_one"] ["_law_script"] (defScope s_law) := ⟨rfl, rfl, rfl, by decide +kernel, rfl, by decide +kernel, by decide +kernel⟩
structure Txt (K : PySem.W.Frag) (mg : Str → Option Value) : Prop where
  b_len : mg "len" = none
  b_max : mg "max" = none
  b_min : mg "min" = none
  b_range : mg "range" = none
  b_repr : mg "repr" = none
  b_all : mg "all" = none
  b_enumerate : mg "enumerate" = none
  t_tuple : mg "tuple" = none
  b_isinstance : mg "isinstance" = none
  t_int : mg "int" = none
  t_bool : mg "bool" = none
  t_list : mg "list" = none
  b_sum : mg "sum" = none
  b_zip : mg "zip" = none
  b_sorted : mg "sorted" = none
  b_reversed : mg "reversed" = none
  g_MOST_MAKES : GInt mg "MOST_MAKES" 64
  g_MOST_CHANGES : GInt mg "MOST_CHANGES" 20
  g_MOST_PLACES : GInt mg "MOST_PLACES" 16
  g_MOST_WORTH : GInt mg "MOST_WORTH" (10 ^ 30 - 1)
/-- a class of trees -/
structure TreeC (K : PySem.W.Frag) (C : Addr) : Prop where
  cl : Cls K C
  n_owns : NoAttr K C "_owns"
  n_depths : NoAttr K C "_depths"
  n_on : NoAttr K C "_on"
  n_leaps : NoAttr K C "_leaps"
def fields : List Str := ["_owns", "_depths", "_on", "_leaps"]
def num (j : Nat) : V := .int (j : Nat)
/-! the line of a make -/
def par (ow : List Nat) (i : Nat) : Nat := ow.getD (i - 1) 0
def Low (ow : List Nat) : Prop := ∀ (i j : Nat), ow[i]? = some j → j ≤ i
theorem par_lt {ow : List Nat} (h : Low ow) {i : Nat} (hi : 0 < i) : par ow i < i := by
  unfold par
  rw [List.getD_eq_getElem?_getD]
  cases e : ow[i - 1]? with
  | none =>
    show 0 < i
    exact hi
  | some j =>
    have := h _ _ e
    show j < i
    omega
def lineN (ow : List Nat) : Nat → Nat → List Nat
  | 0, i => [i]
  | f + 1, i => if i = 0 then [0] else lineN ow f (par ow i) ++ [i]
def line (ow : List Nat) (i : Nat) : List Nat := lineN ow i i
theorem lineN_more {ow : List Nat} (h : Low ow) : ∀ (f i : Nat), i ≤ f → lineN ow f i = lineN ow i i := by
  intro f
  induction f using Nat.strongRecOn with
  | _ f ih =>
    intro i hi
    cases f with
    | zero =>
      have e : i = 0 := by omega
      rw [e]
    | succ f =>
      cases i with
      | zero => rfl
      | succ i =>
        have hp := par_lt h (i := i + 1) (by omega)
        show (if i + 1 = 0 then [0] else lineN ow f (par ow (i + 1)) ++ [i + 1]) = (if i + 1 = 0 then [0] else lineN ow i (par ow (i + 1)) ++ [i + 1])
        rw [if_neg (by omega), if_neg (by omega), ih f (by omega) _ (by omega)]
        by_cases e : i < f + 1
        · rw [ih i (by omega) _ (by omega)]
        · omega
theorem line_step {ow : List Nat} (h : Low ow) {i : Nat} (hi : 0 < i) : line ow i = line ow (par ow i) ++ [i] := by
  obtain ⟨j, rfl⟩ : ∃ j, i = j + 1 := ⟨i - 1, by omega⟩
  have hp := par_lt h hi
  show (if j + 1 = 0 then [0] else lineN ow j (par ow (j + 1)) ++ [j + 1]) = _
  rw [if_neg (by omega), lineN_more h j _ (by omega)]
  rfl
theorem line_zero (ow : List Nat) : line ow 0 = [0] := rfl
theorem line_le {ow : List Nat} (h : Low ow) : ∀ (i : Nat), ∀ x ∈ line ow i, x ≤ i := by
  intro i
  induction i using Nat.strongRecOn with
  | _ i ih =>
    intro x hx
    by_cases h0 : 0 < i
    · rw [line_step h h0] at hx
      rcases List.mem_append.mp hx with hx | hx
      · have := ih _ (par_lt h h0) x hx
        have := par_lt h h0
        omega
      · rw [List.mem_singleton.mp hx]
        exact Nat.le_refl _
    · have e : i = 0 := by omega
      subst e
      rw [line_zero] at hx
      rw [List.mem_singleton.mp hx]
      exact Nat.le_refl _
theorem line_len {ow : List Nat} (h : Low ow) : ∀ i : Nat, (line ow i).length ≤ i + 1 := by
  intro i
  induction i using Nat.strongRecOn with
  | _ i ih =>
    by_cases h0 : 0 < i
    · rw [line_step h h0, List.length_append]
      have := ih _ (par_lt h h0)
      have := par_lt h h0
      show _ + 1 ≤ i + 1
      omega
    · have e : i = 0 := by omega
      subst e
      exact Nat.le_refl 1
/-- the last make that stands at the same place of both -/
def nearL (xs ys : List Nat) : Nat := (xs.zip ys).foldl (fun a p => if p.1 = p.2 then p.1 else a) 0
theorem near_snoc {xs ys : List Nat} {a : Nat} (h : a ∉ ys) : nearL (xs ++ [a]) ys = nearL xs ys := by
  have hz : (xs ++ [a]).zip ys = xs.zip ys ++ (match ys[xs.length]? with | some b => [(a, b)] | none => []) := by
    induction xs generalizing ys with
    | nil =>
      cases ys with
      | nil => rfl
      | cons y r => simp
    | cons x r ih =>
      cases ys with
      | nil => simp
      | cons y s =>
        have := ih (ys := s) (fun z => h (List.mem_cons_of_mem _ z))
        simp [this]
  unfold nearL
  rw [hz, List.foldl_append]
  cases e : ys[xs.length]? with
  | none => rfl
  | some b =>
    have hb : b ∈ ys := List.mem_of_getElem? e
    show (if a = b then a else _) = _
    have hab : a ≠ b := fun q => h (by rw [q]; exact hb)
    rw [if_neg hab]
theorem near_comm (xs ys : List Nat) : nearL xs ys = nearL ys xs := by
  unfold nearL
  have : ∀ (xs ys : List Nat) (c : Nat), (xs.zip ys).foldl (fun a p => if p.1 = p.2 then p.1 else a) c = (ys.zip xs).foldl (fun a p => if p.1 = p.2 then p.1 else a) c := by
    intro xs
    induction xs with
    | nil =>
      intro ys c
      simp
    | cons x r ih =>
      intro ys c
      cases ys with
      | nil => simp
      | cons y s =>
        simp only [List.zip_cons_cons, List.foldl_cons]
        rw [ih]
        by_cases e : x = y
        · rw [e]
        · rw [if_neg e, if_neg (fun q => e q.symm)]
  exact this xs ys 0
theorem near_self {ow : List Nat} (h : Low ow) (i : Nat) : nearL (line ow i) (line ow i) = i := by
  have all : ∀ (xs : List Nat) (c a : Nat), ((xs ++ [a]).zip (xs ++ [a])).foldl (fun a p => if p.1 = p.2 then p.1 else a) c = a := by
    intro xs
    induction xs with
    | nil =>
      intro c a
      simp
    | cons x r ih =>
      intro c a
      simp only [List.cons_append, List.zip_cons_cons, List.foldl_cons]
      exact ih _ a
  by_cases h0 : 0 < i
  · rw [line_step h h0]
    exact all _ 0 i
  · have e : i = 0 := by omega
    subst e
    rfl
theorem near_left {ow : List Nat} (h : Low ow) {i j : Nat} (hij : j < i) : nearL (line ow (par ow i)) (line ow j) = nearL (line ow i) (line ow j) := by
  rw [line_step h (by omega : 0 < i), near_snoc]
  intro hm
  have := line_le h j i hm
  omega
theorem near_right {ow : List Nat} (h : Low ow) {i j : Nat} (hij : i < j) : nearL (line ow i) (line ow (par ow j)) = nearL (line ow i) (line ow j) := by
  rw [near_comm, near_left h hij, near_comm]
theorem line_last {ow : List Nat} (h : Low ow) (i : Nat) : ∃ us, line ow i = us ++ [i] ∧ i ∉ us := by
  by_cases h0 : 0 < i
  · refine ⟨line ow (par ow i), line_step h h0, fun hm => ?_⟩
    have := line_le h _ _ hm
    have := par_lt h h0
    omega
  · have e : i = 0 := by omega
    subst e
    exact ⟨[], rfl, fun z => nomatch z⟩
theorem line_pre {ow : List Nat} (h : Low ow) : ∀ (i x : Nat), x ∈ line ow i → ∃ r, line ow i = line ow x ++ r := by
  intro i
  induction i using Nat.strongRecOn with
  | _ i ih =>
    intro x hx
    by_cases e : x = i
    · exact ⟨[], by rw [e, List.append_nil]⟩
    · by_cases h0 : 0 < i
      · rw [line_step h h0] at hx ⊢
        rcases List.mem_append.mp hx with hx | hx
        · obtain ⟨r, hr⟩ := ih _ (par_lt h h0) x hx
          exact ⟨r ++ [i], by rw [hr, List.append_assoc]⟩
        · exact absurd (List.mem_singleton.mp hx) e
      · have e0 : i = 0 := by omega
        subst e0
        rw [line_zero] at hx
        exact absurd (List.mem_singleton.mp hx) e
theorem zero_mem {ow : List Nat} (h : Low ow) : ∀ i : Nat, 0 ∈ line ow i := by
  intro i
  induction i using Nat.strongRecOn with
  | _ i ih =>
    by_cases h0 : 0 < i
    · rw [line_step h h0]
      exact List.mem_append_left _ (ih _ (par_lt h h0))
    · have e : i = 0 := by omega
      subst e
      exact List.mem_cons_self
/-- where a make stands on a line: at its depth, and not ahead -/
theorem line_index {ow : List Nat} (h : Low ow) {i x : Nat} (hx : x ∈ line ow i) : ∃ us r, line ow i = us ++ x :: r ∧ us.length = (line ow x).length - 1 ∧ x ∉ us := by
  obtain ⟨r, hr⟩ := line_pre h i x hx
  obtain ⟨us, hu, hn⟩ := line_last h x
  refine ⟨us, r, ?_, ?_, hn⟩
  · rw [hr, hu, List.append_assoc]
    rfl
  · rw [hu, List.length_append]
    show us.length = us.length + 1 - 1
    omega
/-- how deep each make stands -/
def depths (ow : List Nat) : List Nat := (List.range (ow.length + 1)).map fun i => (line ow i).length - 1
theorem depths_at {ow : List Nat} {i : Nat} (h : i ≤ ow.length) : atI ((depths ow).map num) ((i : Nat) : Int) = some (num ((line ow i).length - 1)) := by
  refine atI_nat ?_
  unfold depths
  rw [List.map_map, List.getElem?_map, List.getElem?_range (by omega)]
  rfl
theorem par_more {ow : List Nat} {k x : Nat} (hx : 0 < x) (h : x ≤ ow.length) : par (ow ++ [k]) x = par ow x := by
  unfold par
  rw [List.getD_eq_getElem?_getD, List.getD_eq_getElem?_getD, List.getElem?_append_left (by omega)]
theorem low_more {ow : List Nat} (h : Low ow) {k : Nat} (hk : k ≤ ow.length) : Low (ow ++ [k]) := by
  intro i j e
  by_cases hi : i < ow.length
  · rw [List.getElem?_append_left hi] at e
    exact h i j e
  · rw [List.getElem?_append_right (by omega)] at e
    by_cases h0 : i - ow.length = 0
    · rw [h0] at e
      have : k = j := Option.some.inj e
      omega
    · rw [List.getElem?_eq_none (by show 1 ≤ _; omega)] at e
      cases e
theorem line_more {ow : List Nat} (h : Low ow) {k : Nat} (hk : k ≤ ow.length) : ∀ x : Nat, x ≤ ow.length → line (ow ++ [k]) x = line ow x := by
  intro x
  induction x using Nat.strongRecOn with
  | _ x ih =>
    intro hx
    by_cases h0 : 0 < x
    · have := par_lt h h0
      rw [line_step (low_more h hk) h0, line_step h h0, par_more h0 hx, ih _ this (by omega)]
    · have e : x = 0 := by omega
      subst e
      rfl
theorem line_new {ow : List Nat} (h : Low ow) {k : Nat} (hk : k ≤ ow.length) : line (ow ++ [k]) (ow.length + 1) = line ow k ++ [ow.length + 1] := by
  have hp : par (ow ++ [k]) (ow.length + 1) = k := by
    unfold par
    rw [List.getD_eq_getElem?_getD, Nat.add_sub_cancel, List.getElem?_append_right (Nat.le_refl _), Nat.sub_self]
    rfl
  rw [line_step (low_more h hk) (by omega), hp, line_more h hk _ hk]
theorem depths_more {ow : List Nat} (h : Low ow) {k : Nat} (hk : k ≤ ow.length) : depths (ow ++ [k]) = depths ow ++ [(line ow k).length] := by
  unfold depths
  rw [List.length_append, show ow.length + [k].length + 1 = (ow.length + 1) + 1 from rfl, List.range_succ, List.map_append]
  congr 1
  · refine List.map_congr_left fun x hx => ?_
    rw [line_more h hk x (by have := List.mem_range.mp hx; omega)]
  · show [(line (ow ++ [k]) (ow.length + 1)).length - 1] = _
    rw [line_new h hk, List.length_append]
    rfl
theorem cut_from (xs : List V) (k : Nat) : cutV xs (some (k : Int)) none = xs.drop k := by
  unfold cutV
  rw [HT.sIx_nat, HT.sIx_none]
  by_cases h : k ≤ xs.length
  · rw [Nat.min_eq_left h]
    have := List.take_length (l := xs.drop k)
    rw [List.length_drop] at this
    exact this
  · rw [Nat.min_eq_right (by omega), List.drop_eq_nil_of_le (by omega : xs.length ≤ k), List.drop_length]
    exact List.take_nil
/-- a tree of the class C at t: the own makes of 1, 2, .. and how deep each stands -/
structure Tr (H : Hp) (t C : Addr) (ow ds : List Nat) : Prop where
  ex : ∃ (dx o d n : Addr) (fs : List (Str × V)), H t = some (.ins C dx fs) ∧ fs.lookup ("_owns" : Str) = some (.ref o) ∧ fs.lookup ("_depths" : Str) = some (.ref d) ∧ fs.lookup ("_on" : Str) = some (.ref n) ∧
    (∀ m, m ∉ fields → fs.lookup m = none) ∧ H o = some (.lst (.non :: ow.map num)) ∧ H d = some (.lst (ds.map num)) ∧ fs.length < 1000
  low : ∀ (i j : Nat), ow[i]? = some j → j ≤ i
  few : ow.length ≤ 63
  deep : ds = depths ow
section
variable {P : Program} {w : World} {K : PySem.W.Frag} {mg : Str → Option Value} {base : Heap} {C : Addr}
/-- a method of the class at C, by its name and its place in the text -/
structure MAt (K : PySem.W.Frag) (C : Addr) (m qual : Str) (st : Stmt) (ps : List Str) : Prop where
  ex : ∃ (f : Addr) (fd : FuncData), Fun K m qual st f fd ∧ Meth K C m f ∧ Binds K fd ps []
theorem MAt.met {m qual : Str} {st : Stmt} {N ps : List Str} {k : Nat} {sp : Sp} (M : MAt K C m qual st ps) (cl : Cls K C) (S : FnScope N ps (defScope st))
    (ar : ∀ vs H Q E, sp vs H Q E → vs.length = ps.length)
    (bd : ∀ (f : Addr) (cdv : Value) (A : Around) (outer : List Env) (s : Shared) (H : Hp) (vs : List V) (Q : VK) (E : XK), Room k (A.deeper (envOfC qual (defScope st) s.heap.objs.size f cdv)) → sp vs H Q E →
      ∃ t, PSs (cxOf CX0 P w K mg base N qual (defScope st) f cdv A outer s H E).nox (defBody st) t ∧ t { nx := fun _ H' => Q .non H', rt := Q } (start N vs) H) : Met P w K mg base (k + 1) C m sp [] := by
  obtain ⟨f, fd, F, me, b⟩ := M.ex
  exact ⟨f, fd, ps, [], cl, me, F.ok S ar (bd f), b, .nil⟩
def spMany (C : Addr) : Sp := fun vs H Q _ => ∃ (t : Addr) (ow ds : List Nat), vs = [.ref t] ∧ Tr H t C ow ds ∧ Q (.int ((ow.length + 1 : Nat) : Int)) H
theorem ok_many (T : Txt K mg) (TC : TreeC K C) (M : MAt K C "many" "MakeTree.many" s_MakeTree_many ["self"]) : Met P w K mg base 1 C "many" (spMany C) [] := by
  refine M.met TC.cl sc_MakeTree_many (fun vs H Q E h => ?_) (fun f cdv A outer s H vs Q E hr h => ?_)
  · obtain ⟨t, ow, ds, rfl, _⟩ := h
    rfl
  · obtain ⟨t, ow, ds, rfl, tr, q⟩ := h
    obtain ⟨dx, o, d, n, fs, e1, l1, l2, l3, lo, e2, e3, lf⟩ := tr.ex
    refine ⟨_, (pss_one (ps_ret (pe_callB call_len (by rfl) T.b_len boot_len_ (pa_cons (pe_fld (pv 0) rfl) pa_nil)))), ?_⟩
    refine ⟨_, rfl, t, C, dx, fs, .ref o, rfl, e1, TC.cl, TC.n_owns, l1, .ref o, (V.non :: ow.map num).length, rfl, .inl ⟨_, SqL.of e2, rfl⟩, ?_⟩
    have e : (V.non :: ow.map num).length = ow.length + 1 := by rw [List.length_cons, List.length_map]
    rw [e]
    exact q
def spWhI : Sp := fun vs H Q _ => ∃ n lo hi : Int, vs = [.int n, .int lo, .int hi] ∧ lo ≤ n ∧ n ≤ hi ∧ Q (.bl true) H
theorem ok_whI (T : Txt K mg) (D : DefAt K mg "is_whole" s_is_whole ["thing", "low", "high"]) : C8.Cal P w K mg base 1 "is_whole" spWhI [] := by
  obtain ⟨f, fd, F, m, b⟩ := D.ex
  refine ⟨f, fd, _, [], F.ok sc_is_whole (fun vs H Q E h => ?_) (fun cdv A outer s H vs Q E hr h => ?_), m, F.kp, b, .nil⟩
  · obtain ⟨n, lo, hi, rfl, _⟩ := h
    rfl
  · obtain ⟨n, lo, hi, rfl, h1, h2, q⟩ := h
    refine ⟨_, (pss_one (ps_ret (pe_and (pe_callB call_isi (by rfl) T.b_isinstance boot_isinstance_ (pa_cons (pv 0) (pa_cons (pe_bltn (v := .ty "int") (by rfl) T.t_int boot_int_ rfl) pa_nil))) (pe_and (pe_not (pe_callB call_isi (by rfl) T.b_isinstance boot_isinstance_ (pa_cons (pv 0) (pa_cons (pe_bltn (v := .ty "bool") (by rfl) T.t_bool boot_bool_ rfl) pa_nil)))) (pe_one (pe_chain op_le op_le (pv 1) (pv 0) (pv 2))))))), ?_⟩
    have ty := tyD (K := K) (H := H) (D1.dp (Dp.int n))
    refine ⟨_, rfl, .int n, .ty "int", _, .type "int", _, rfl, .ty _, ty, kInt (.int n), _, rfl, ?_⟩
    refine iteT ?_
    refine ⟨_, rfl, _, .ty "bool", _, .type "bool", _, rfl, .ty _, ty, kBool _, _, rfl, _, rfl, ?_⟩
    refine iteT ?_
    refine ⟨_, rfl, _, rfl, _, _, rfl, rfl, _, rfl, ?_⟩
    rw [decide_eq_true h1]
    refine iteT ⟨_, rfl, _, _, rfl, rfl, ?_⟩
    show Q (.bl (decide (n ≤ hi))) H
    rw [decide_eq_true h2]
    exact q
def spNeed (C : Addr) : Sp := fun vs H Q _ => ∃ (t : Addr) (ow ds : List Nat) (i : Nat), vs = [.ref t, num i] ∧ Tr H t C ow ds ∧ i ≤ ow.length ∧ Q .non H
theorem ok_need (T : Txt K mg) (TC : TreeC K C) (c_is_whole : C8.Cal P w K mg base 1 "is_whole" spWhI []) (m_many : Met P w K mg base 1 C "many" (spMany C) []) (M : MAt K C "_need_make" "MakeTree._need_make" s_MakeTree__need_make ["self", "make"]) :
    Met P w K mg base 2 C "_need_make" (spNeed C) [] := by
  refine M.met TC.cl sc_MakeTree__need_make (fun vs H Q E h => ?_) (fun f cdv A outer s H vs Q E hr h => ?_)
  · obtain ⟨t, ow, ds, i, rfl, _⟩ := h
    rfl
  · obtain ⟨t, ow, ds, i, rfl, tr, hi, q⟩ := h
    obtain ⟨dx, o, d, n, fs, e1, l1, l2, l3, lo, e2, e3, lf⟩ := tr.ex
    refine ⟨_, (pss_one (ps_if (pt_not (pt_val (C8.pe_c c_is_whole hr (by decide) (by rfl) (pa_cons (pv 1) (pa_cons pe_int (pa_cons (pe_op op_sub (pe_mt0 m_many hr (by decide) (pv 0)) pe_int) pa_nil))))))
          (pss_one ps_never) pss_nil)), ?_⟩
    have nl := lo
    refine ⟨_, rfl, _, rfl, t, dx, fs, rfl, e1, nl _ (by decide), t, ow, ds, rfl, tr, _, _, rfl, rfl, ?_⟩
    refine ⟨(i : Nat), 0, ((ow.length + 1 : Nat) : Int) - 1, rfl, by omega, by omega, ?_⟩
    exact ⟨_, rfl, iteF q⟩
theorem at_own {ow : List Nat} {i : Nat} (h0 : 0 < i) (h1 : i ≤ ow.length) : atI (V.non :: ow.map num) ((i : Nat) : Int) = some (num (par ow i)) := by
  refine atI_nat ?_
  obtain ⟨j, rfl⟩ : ∃ j, i = j + 1 := ⟨i - 1, by omega⟩
  rw [List.getElem?_cons_succ, List.getElem?_map]
  have hj : j < ow.length := by omega
  unfold par
  rw [List.getD_eq_getElem?_getD, Nat.add_sub_cancel, List.getElem?_eq_getElem hj]
  rfl
theorem none_of {H H' : Hp} {p : Addr} (sm : Same H H') (h : H' p = none) : H p = none := by
  cases z : H p with
  | none => rfl
  | some u =>
    have z2 := sm _ _ z
    rw [h] at z2
    cases z2
theorem near_mem (xs ys : List Nat) : nearL xs ys = 0 ∨ nearL xs ys ∈ xs := by
  unfold nearL
  have all : ∀ (xs ys : List Nat) (c : Nat), (xs.zip ys).foldl (fun a p => if p.1 = p.2 then p.1 else a) c = c ∨ (xs.zip ys).foldl (fun a p => if p.1 = p.2 then p.1 else a) c ∈ xs := by
    intro xs
    induction xs with
    | nil =>
      intro ys c
      exact .inl (by simp)
    | cons x r ih =>
      intro ys c
      cases ys with
      | nil => exact .inl (by simp)
      | cons y s =>
        simp only [List.zip_cons_cons, List.foldl_cons]
        by_cases e : x = y
        · rw [if_pos e]
          rcases ih s x with h | h
          · exact .inr (by rw [h]; exact List.mem_cons_self)
          · exact .inr (List.mem_cons_of_mem _ h)
        · rw [if_neg e]
          rcases ih s c with h | h
          · exact .inl h
          · exact .inr (List.mem_cons_of_mem _ h)
  exact all xs ys 0
theorem near_on {ow : List Nat} (h : Low ow) (i j : Nat) : nearL (line ow i) (line ow j) ∈ line ow i := by
  rcases near_mem (line ow i) (line ow j) with e | e
  · rw [e]
    exact zero_mem h i
  · exact e
theorem near_on2 {ow : List Nat} (h : Low ow) (i j : Nat) : nearL (line ow i) (line ow j) ∈ line ow j := by
  rw [near_comm]
  exact near_on h j i
theorem near_le {ow : List Nat} (h : Low ow) (i j : Nat) : nearL (line ow i) (line ow j) ≤ i := by
  rcases near_mem (line ow i) (line ow j) with e | e
  · omega
  · exact line_le h i _ e
theorem Tr.same {H H' : Hp} {t C : Addr} {ow ds : List Nat} (tr : Tr H t C ow ds) (sm : Same H H') : Tr H' t C ow ds := by
  obtain ⟨dx, o, d, n, fs, e1, l1, l2, l3, nl, e2, e3, lf⟩ := tr.ex
  exact ⟨⟨dx, o, d, n, fs, sm _ _ e1, l1, l2, l3, nl, sm _ _ e2, sm _ _ e3, lf⟩, tr.low, tr.few, tr.deep⟩
/-- the makes that were put on a make, rising -/
def kids (ow : List Nat) (i : Nat) : List Nat := ((List.range ow.length).filter fun n => decide (ow[n]? = some i)).map fun n => n + 1
theorem kids_len (ow : List Nat) (i : Nat) : (kids ow i).length ≤ ow.length := by
  unfold kids
  rw [List.length_map]
  have h := List.length_filter_le (fun n => decide (ow[n]? = some i)) (List.range ow.length)
  rw [List.length_range] at h
  exact h
theorem kids_more (ow : List Nat) (k i : Nat) : kids (ow ++ [k]) i = kids ow i ++ (if i = k then [ow.length + 1] else []) := by
  unfold kids
  rw [List.length_append, show ow.length + [k].length = ow.length + 1 from rfl, List.range_succ, List.filter_append, List.map_append]
  have e1 : (List.range ow.length).filter (fun n => decide ((ow ++ [k])[n]? = some i)) = (List.range ow.length).filter fun n => decide (ow[n]? = some i) := by
    refine List.filter_congr fun n hn => ?_
    rw [List.getElem?_append_left (List.mem_range.mp hn)]
  rw [e1]
  congr 1
  have e2 : (ow ++ [k])[ow.length]? = some k := by
    rw [List.getElem?_append_right (Nat.le_refl _), Nat.sub_self]
    rfl
  rw [List.filter_cons, List.filter_nil, e2]
  by_cases e : i = k
  · rw [if_pos e, if_pos (decide_eq_true (by rw [e]))]
    rfl
  · rw [if_neg e, if_neg (by simp only [decide_eq_true_eq]; exact fun z => e (Option.some.inj z).symm)]
    rfl
theorem kids_new {ow : List Nat} (h : Low ow) {i : Nat} (hi : ow.length ≤ i) : kids ow i = [] := by
  unfold kids
  rw [List.filter_eq_nil_iff.mpr, List.map_nil]
  intro n hn e
  have e2 : ow[n]? = some i := of_decide_eq_true e
  have := h n i e2
  have := List.mem_range.mp hn
  omega
/-- a tree with what is its own: nothing outside N is written -/
structure Tw (N : Addr → Prop) (H : Hp) (t C : Addr) (ow : List Nat) : Prop where
  ex : ∃ (dx o d n : Addr) (fs : List (Str × V)) (ns : List Addr), H t = some (.ins C dx fs) ∧ fs.lookup ("_owns" : Str) = some (.ref o) ∧ fs.lookup ("_depths" : Str) = some (.ref d) ∧ fs.lookup ("_on" : Str) = some (.ref n) ∧
    (∀ m, m ∉ fields → fs.lookup m = none) ∧ H o = some (.lst (.non :: ow.map num)) ∧ H d = some (.lst ((depths ow).map num)) ∧ H n = some (.lst (ns.map V.ref)) ∧ fs.length < 1000 ∧
    ns.length = ow.length + 1 ∧ o ≠ d ∧ o ≠ n ∧ d ≠ n ∧ (∀ (i : Nat) (a : Addr), ns[i]? = some a → H a = some (.lst ((kids ow i).map num)) ∧ a ≠ o ∧ a ≠ d ∧ a ≠ n ∧ N a) ∧ (∀ (i j : Nat) (a : Addr), ns[i]? = some a → ns[j]? = some a → i = j) ∧ N o ∧ N d ∧ N n
  low : Low ow
  few : ow.length ≤ 63
theorem Tw.tr {N : Addr → Prop} {H : Hp} {t C : Addr} {ow : List Nat} (w : Tw N H t C ow) : Tr H t C ow (depths ow) := by
  obtain ⟨dx, o, d, n, fs, ns, e1, l1, l2, l3, nl, e2, e3, e4, lf, _⟩ := w.ex
  exact ⟨⟨dx, o, d, n, fs, e1, l1, l2, l3, nl, e2, e3, lf⟩, w.low, w.few, rfl⟩
def spGrow (C : Addr) : Sp := fun vs H Q _ => ∃ (t : Addr) (ow : List Nat) (i : Nat) (N : Addr → Prop), vs = [.ref t, num i] ∧ Tw N H t C ow ∧ i ≤ ow.length ∧ ow.length < 63 ∧
  ∀ (H' : Hp) (N' : Addr → Prop), Tw N' H' t C (ow ++ [i]) → (∀ c u, ¬ N c → H c = some u → H' c = some u) → (∀ c, N' c → N c ∨ H c = none) → Q (num (ow.length + 1)) H'
theorem fn_grow {f : Addr} {fd : FuncData} (T : Txt K mg) (TC : TreeC K C) (m_many : Met P w K mg base 1 C "many" (spMany C) []) (m__need_make : Met P w K mg base 2 C "_need_make" (spNeed C) []) (F : Fun K "grow" "MakeTree.grow" s_MakeTree_grow f fd) :
    FnOk P w K mg base CX0 3 f fd ["self", "make"] (spGrow C) := by
  refine F.ok sc_MakeTree_grow (fun vs H Q E h => ?_) (fun cdv A outer s H vs Q E hr h => ?_)
  · obtain ⟨t, ow, i, N, rfl, _⟩ := h
    rfl
  · obtain ⟨t, ow, i, N, rfl, tw, hi, hf, q⟩ := h
    obtain ⟨dx, o, d, n, fs, ns, e1, l1, l2, l3, nl, e2, e3, e4, lf, hns, od, on, dn, hin, hnd, No, Nd, Nn⟩ := tw.ex
    refine ⟨_, (pss_cons (ps_expr (pe_mt m__need_make hr (by decide) (pv 0) (pa_cons (pv 1) pa_nil)))
      (pss_cons (ps_set (i := 2) sc_MakeTree_grow.nd rfl (Or.inl rfl) (pe_mt0 m_many hr (by decide) (pv 0)))
      (pss_cons (ps_if (pt_cmpR op_ge (pv 2) (pe_gi rfl T.g_MOST_MAKES) (nomark _))
          (pss_one ps_never) pss_nil)
      (pss_cons (ps_expr (pe_bm PySem.F.plainAttrs_list PySem.F.slot_list_append PySem.F.type_list_append mt_append (pe_fld (pv 0) rfl) (pa_cons (pv 1) pa_nil)))
      (pss_cons (ps_expr (pe_bm PySem.F.plainAttrs_list PySem.F.slot_list_append PySem.F.type_list_append mt_append (pe_fld (pv 0) rfl) (pa_cons (pe_op op_add (pe_ix ix_list (pe_fld (pv 0) rfl) (pv 1) (fun _ _ => rfl)) pe_int) pa_nil)))
      (pss_cons (ps_expr (pe_bm PySem.F.plainAttrs_list PySem.F.slot_list_append PySem.F.type_list_append mt_append (pe_fld (pv 0) rfl) (pa_cons (pe_lst pa_nil) pa_nil)))
      (pss_cons (ps_expr (pe_bm PySem.F.plainAttrs_list PySem.F.slot_list_append PySem.F.type_list_append mt_append (pe_ix ix_list (pe_fld (pv 0) rfl) (pv 1) (fun _ _ => rfl)) (pa_cons (pv 2) pa_nil)))
      (pss_one (ps_ret (pv 2)))))))))), ?_⟩
    refine ⟨_, rfl, t, dx, fs, rfl, e1, nl _ (by decide), _, rfl, t, ow, _, i, rfl, tw.tr, hi, ?_⟩
    refine ⟨_, rfl, t, dx, fs, rfl, e1, nl _ (by decide), t, ow, _, rfl, tw.tr, ?_⟩
    refine ⟨_, rfl, _, _, rfl, rfl, _, rfl, ?_⟩
    have hlt : ¬ ((64 : Int) ≤ ((ow.length + 1 : Nat) : Int)) := by omega
    rw [show decide ((64 : Int) ≤ ((ow.length + 1 : Nat) : Int)) = false from decide_eq_false hlt]
    refine iteF ?_
    have hto : t ≠ o := fun e => by rw [e, e2] at e1; cases e1
    have htd : t ≠ d := fun e => by rw [e, e3] at e1; cases e1
    have htn : t ≠ n := fun e => by rw [e, e4] at e1; cases e1
    have len1 : (V.non :: ow.map num).length < sizeLine := small1000 (by rw [List.length_cons, List.length_map]; omega)
    have len2 : ((depths ow).map num).length < sizeLine := small1000 (by unfold depths; rw [List.length_map, List.length_map, List.length_range]; omega)
    have len3 : (ns.map V.ref).length < sizeLine := small1000 (by rw [List.length_map]; omega)
    refine ⟨_, rfl, t, C, dx, fs, .ref o, rfl, e1, TC.cl, TC.n_owns, l1, .inl ⟨rfl, _, SqL.of e2⟩, _, rfl, o, _, _, rfl, rfl, e2, len1, ?_⟩
    have f1 : (upd H o (.lst ((V.non :: ow.map num) ++ [num i]))) t = some (.ins C dx fs) := (upd_ne hto).trans e1
    have f3 : (upd H o (.lst ((V.non :: ow.map num) ++ [num i]))) d = some (.lst ((depths ow).map num)) := (upd_ne od.symm).trans e3
    refine ⟨_, rfl, t, C, dx, fs, .ref d, rfl, f1, TC.cl, TC.n_depths, l2, .inl ⟨rfl, _, SqL.of f3⟩, _, rfl, t, C, dx, fs, .ref d, rfl, f1, TC.cl, TC.n_depths, l2, _, rfl, d, _, _, _, rfl, rfl, SqL.of f3, depths_at hi, _, _, rfl, rfl, d, _, _, rfl, rfl, f3, len2, ?_⟩
    have hpos : 0 < (line ow i).length := by
      obtain ⟨us, hu, _⟩ := line_last tw.low i
      rw [hu, List.length_append]
      exact Nat.succ_pos _
    have ev : (V.int ((((line ow i).length - 1 : Nat) : Int) + 1)) = num (line ow i).length := by
      show V.int _ = V.int _
      congr 1
      omega
    show (fun H2 => _) (upd (upd H o (.lst ((V.non :: ow.map num) ++ [num i]))) d (.lst ((depths ow).map num ++ [V.int ((((line ow i).length - 1 : Nat) : Int) + 1)])))
    rw [ev]
    have g_o : (upd (upd H o (.lst ((V.non :: ow.map num) ++ [num i]))) d (.lst ((depths ow).map num ++ [num (line ow i).length]))) o = some (.lst (.non :: (ow ++ [i]).map num)) := by
      rw [upd_ne od, upd_same, List.map_append]
      rfl
    have g_d : (upd (upd H o (.lst ((V.non :: ow.map num) ++ [num i]))) d (.lst ((depths ow).map num ++ [num (line ow i).length]))) d = some (.lst ((depths (ow ++ [i])).map num)) := by
      rw [upd_same, depths_more tw.low hi, List.map_append]
      rfl
    have g_k : ∀ c u, c ≠ o → c ≠ d → H c = some u → (upd (upd H o (.lst ((V.non :: ow.map num) ++ [num i]))) d (.lst ((depths ow).map num ++ [num (line ow i).length]))) c = some u := fun c u h1 h2 z => by
      rw [upd_ne h2, upd_ne h1]
      exact z
    have g_n : ∀ c, (upd (upd H o (.lst ((V.non :: ow.map num) ++ [num i]))) d (.lst ((depths ow).map num ++ [num (line ow i).length]))) c = none → H c = none := fun c z => upd_none (upd_none z)
    generalize upd (upd H o (.lst ((V.non :: ow.map num) ++ [num i]))) d (.lst ((depths ow).map num ++ [num (line ow i).length])) = H2 at *
    have h2t := g_k _ _ hto htd e1
    have h2n := g_k _ _ on.symm dn.symm e4
    refine ⟨_, rfl, t, C, dx, fs, .ref n, rfl, h2t, TC.cl, TC.n_on, l3, .inl ⟨rfl, _, SqL.of h2n⟩, (by show 0 ≤ sizeLine; decide), fun p hp => ?_⟩
    refine ⟨n, _, _, rfl, rfl, kep h2n hp, len3, ?_⟩
    have hpo : p ≠ o := fun e => by rw [e, g_o] at hp; cases hp
    have hpd : p ≠ d := fun e => by rw [e, g_d] at hp; cases hp
    have hpn : p ≠ n := fun e => by rw [e, h2n] at hp; cases hp
    have hpt : p ≠ t := fun e => by rw [e, h2t] at hp; cases hp
    have hi2 : i < ns.length := by omega
    obtain ⟨b, hb⟩ : ∃ b, ns[i]? = some b := ⟨_, List.getElem?_eq_getElem hi2⟩
    obtain ⟨hks, bo, bd, bn, Nb⟩ := hin i b hb
    have hkl := kids_len ow i
    have hbt : b ≠ t := fun e => by rw [e, e1] at hks; cases hks
    have h2b := g_k _ _ bo bd hks
    have hbp : b ≠ p := fun e => by rw [e, hp] at h2b; cases h2b
    have h3n : (upd (upd H2 p (.lst [])) n (.lst (ns.map V.ref ++ [V.ref p]))) n = some (.lst ((ns ++ [p]).map V.ref)) := by
      rw [upd_same, List.map_append]
      rfl
    have h3t : (upd (upd H2 p (.lst [])) n (.lst (ns.map V.ref ++ [V.ref p]))) t = some (.ins C dx fs) := by
      rw [upd_ne htn, upd_ne hpt.symm]
      exact h2t
    have h3b : (upd (upd H2 p (.lst [])) n (.lst (ns.map V.ref ++ [V.ref p]))) b = some (.lst ((kids ow i).map num)) := by
      rw [upd_ne bn, upd_ne hbp]
      exact h2b
    have h3p : (upd (upd H2 p (.lst [])) n (.lst (ns.map V.ref ++ [V.ref p]))) p = some (.lst []) := by
      rw [upd_ne hpn, upd_same]
    have h3k : ∀ c u, c ≠ n → c ≠ p → H2 c = some u → (upd (upd H2 p (.lst [])) n (.lst (ns.map V.ref ++ [V.ref p]))) c = some u := fun c u h1 h2 z => by
      rw [upd_ne h1, upd_ne h2]
      exact z
    generalize upd (upd H2 p (.lst [])) n (.lst (ns.map V.ref ++ [V.ref p])) = H3 at *
    have hat : atI ((ns ++ [p]).map V.ref) ((i : Nat) : Int) = some (V.ref b) := by
      refine atI_nat ?_
      rw [List.getElem?_map, List.getElem?_append_left hi2, hb]
      rfl
    refine ⟨_, rfl, t, C, dx, fs, .ref n, rfl, h3t, TC.cl, TC.n_on, l3, _, rfl, n, _, _, _, rfl, rfl, SqL.of h3n, hat, .inl ⟨rfl, _, SqL.of h3b⟩, _, rfl, b, _, _, rfl, rfl, h3b, small1000 (by rw [List.length_map]; omega), ?_⟩
    refine ⟨_, rfl, q _ (fun c => N c ∨ c = p) ⟨⟨dx, o, d, n, fs, ns ++ [p], ?_, l1, l2, l3, nl, ?_, ?_, ?_, lf, ?_, od, on, dn, fun j c hc => ?_, fun j k c h1 h2 => ?_, .inl No, .inl Nd, .inl Nn⟩, low_more tw.low hi, ?_⟩ (fun c u hc z => ?_) fun c hc => ?_⟩
    · rw [upd_ne hbt.symm]
      exact h3t
    · rw [upd_ne bo.symm]
      exact h3k _ _ on hpo.symm g_o
    · rw [upd_ne bd.symm]
      exact h3k _ _ dn hpd.symm g_d
    · rw [upd_ne bn.symm]
      exact h3n
    · rw [List.length_append, List.length_append, hns]
      rfl
    · by_cases hj : j < ns.length
      · rw [List.getElem?_append_left hj] at hc
        obtain ⟨hls, co, cd, cn, Nc⟩ := hin j c hc
        refine ⟨?_, co, cd, cn, .inl Nc⟩
        rw [kids_more]
        by_cases e : j = i
        · subst e
          rw [hb] at hc
          cases hc
          rw [if_pos rfl, List.map_append]
          exact upd_same
        · have ecb : c ≠ b := fun z => e (hnd j i c hc (z ▸ hb))
          rw [if_neg e, List.append_nil, upd_ne ecb]
          have h2c := g_k _ _ co cd hls
          exact h3k _ _ cn (fun z => by rw [z, hp] at h2c; cases h2c) h2c
      · rw [List.getElem?_append_right (by omega)] at hc
        by_cases h0 : j - ns.length = 0
        · rw [h0] at hc
          cases (show some p = some c from hc)
          refine ⟨?_, hpo, hpd, hpn, .inr rfl⟩
          rw [kids_more, if_neg (by omega), List.append_nil, kids_new tw.low (i := j) (by omega), upd_ne hbp.symm]
          exact h3p
        · rw [List.getElem?_eq_none (by show 1 ≤ _; omega)] at hc
          cases hc
    · have old : ∀ (j : Nat) (c : Addr), ns[j]? = some c → c ≠ p := fun j c hc z => by
        obtain ⟨hls, co, cd, cn, Nc⟩ := hin j c hc
        have h2c := g_k _ _ co cd hls
        rw [z, hp] at h2c
        cases h2c
      have at_ : ∀ (j : Nat) (c : Addr), (ns ++ [p])[j]? = some c → (j < ns.length ∧ ns[j]? = some c) ∨ (j = ns.length ∧ c = p) := fun j c hc => by
        by_cases hj : j < ns.length
        · rw [List.getElem?_append_left hj] at hc
          exact .inl ⟨hj, hc⟩
        · rw [List.getElem?_append_right (by omega)] at hc
          by_cases h0 : j - ns.length = 0
          · rw [h0] at hc
            exact .inr ⟨by omega, (Option.some.inj hc).symm⟩
          · rw [List.getElem?_eq_none (by show 1 ≤ _; omega)] at hc
            cases hc
      rcases at_ j c h1 with ⟨a1, a2⟩ | ⟨a1, a2⟩
      · rcases at_ k c h2 with ⟨b1, b2⟩ | ⟨b1, b2⟩
        · exact hnd j k c a2 b2
        · exact absurd b2 (old j c a2)
      · rcases at_ k c h2 with ⟨b1, b2⟩ | ⟨b1, b2⟩
        · exact absurd a2 (old k c b2)
        · omega
    · rw [List.length_append]
      show ow.length + 1 ≤ 63
      omega
    · have c1 : c ≠ o := fun e => hc (e ▸ No)
      have c2 : c ≠ d := fun e => hc (e ▸ Nd)
      have c3 : c ≠ n := fun e => hc (e ▸ Nn)
      have c4 : c ≠ b := fun e => hc (e ▸ Nb)
      have h2c := g_k _ _ c1 c2 z
      rw [upd_ne c4]
      exact h3k _ _ c3 (fun z => by rw [z, hp] at h2c; cases h2c) h2c
    · rcases hc with hc | hc
      · exact .inl hc
      · rw [hc]
        exact .inr (g_n _ hp)
theorem ok_grow (T : Txt K mg) (TC : TreeC K C) (m_many : Met P w K mg base 1 C "many" (spMany C) []) (m__need_make : Met P w K mg base 2 C "_need_make" (spNeed C) []) (M : MAt K C "grow" "MakeTree.grow" s_MakeTree_grow ["self", "make"]) :
    Met P w K mg base 3 C "grow" (spGrow C) [] := by
  obtain ⟨f, fd, F, me, b⟩ := M.ex
  exact ⟨f, fd, _, [], TC.cl, me, fn_grow T TC m_many m__need_make F, b, .nil⟩
def spInit (C : Addr) : Sp := fun vs H Q _ => ∃ (t dx : Addr), vs = [.ref t] ∧ H t = some (.ins C dx []) ∧
  ∀ (H' : Hp) (N' : Addr → Prop), Tw N' H' t C [] → (∃ fs, H' t = some (.ins C dx fs) ∧ fs.length ≤ 3 ∧ fs.lookup ("_leaps" : Str) = none) → (∀ c u, c ≠ t → H c = some u → H' c = some u) → (∀ c, N' c → H c = none) → Q .non H'
theorem fn_init {f : Addr} {fd : FuncData} (T : Txt K mg) (TC : TreeC K C) (F : Fun K "__init__" "MakeTree.__init__" s_MakeTree___init__ f fd) : FnOk P w K mg base CX0 1 f fd ["self"] (spInit C) := by
  refine F.ok sc_MakeTree___init__ (fun vs H Q E h => ?_) (fun cdv A outer s H vs Q E hr h => ?_)
  · obtain ⟨t, dx, rfl, _⟩ := h
    rfl
  · obtain ⟨t, dx, rfl, e1, q⟩ := h
    refine ⟨_, (pss_cons (ps_fld (pv 0) (pe_lst (pa_cons pe_non pa_nil)) rfl)
      (pss_cons (ps_fld (pv 0) (pe_lst (pa_cons pe_int pa_nil)) rfl)
      (pss_one (ps_fld (pv 0) (pe_lst (pa_cons (pe_lst pa_nil) pa_nil)) rfl)))), ?_⟩
    refine ⟨(by show 1 ≤ sizeLine; decide), fun o ho => ?_⟩
    have hto : t ≠ o := fun e => by rw [← e, e1] at ho; cases ho
    refine ⟨_, rfl, t, C, dx, [], rfl, kep e1 ho, TC.cl, TC.n_owns, by decide, ?_⟩
    have k1 : ∀ c u, c ≠ t → H c = some u → (upd (upd H o (.lst [V.non])) t (.ins C dx (putF "_owns" (.ref o) []))) c = some u := fun c u h z => by
      rw [upd_ne h]
      exact kep z ho
    have n1 : ∀ c, (upd (upd H o (.lst [V.non])) t (.ins C dx (putF "_owns" (.ref o) []))) c = none → H c = none := fun c z => upd_none (upd_none z)
    have a1t : (upd (upd H o (.lst [V.non])) t (.ins C dx (putF "_owns" (.ref o) []))) t = some (.ins C dx (putF "_owns" (.ref o) [])) := upd_same
    have a1o : (upd (upd H o (.lst [V.non])) t (.ins C dx (putF "_owns" (.ref o) []))) o = some (.lst [V.non]) := by
      rw [upd_ne hto.symm, upd_same]
    generalize hA1 : upd (upd H o (.lst [V.non])) t (.ins C dx (putF "_owns" (.ref o) [])) = A1 at *
    refine ⟨(by show 1 ≤ sizeLine; decide), fun d hd => ?_⟩
    have htd : t ≠ d := fun e => by rw [← e, a1t] at hd; cases hd
    have hod : o ≠ d := fun e => by rw [← e, a1o] at hd; cases hd
    have p1 : (putF "_owns" (.ref o) ([] : List (Str × V))).length ≤ 1 := length_putF _ _ _
    refine ⟨_, rfl, t, C, dx, _, rfl, kep a1t hd, TC.cl, TC.n_depths, Nat.lt_of_le_of_lt p1 (by decide), ?_⟩
    have k2 : ∀ c u, c ≠ t → A1 c = some u → (upd (upd A1 d (.lst [V.int 0])) t (.ins C dx (putF "_depths" (.ref d) (putF "_owns" (.ref o) [])))) c = some u := fun c u h z => by
      rw [upd_ne h]
      exact kep z hd
    have n2 : ∀ c, (upd (upd A1 d (.lst [V.int 0])) t (.ins C dx (putF "_depths" (.ref d) (putF "_owns" (.ref o) [])))) c = none → A1 c = none := fun c z => upd_none (upd_none z)
    have a2t : (upd (upd A1 d (.lst [V.int 0])) t (.ins C dx (putF "_depths" (.ref d) (putF "_owns" (.ref o) [])))) t = some (.ins C dx (putF "_depths" (.ref d) (putF "_owns" (.ref o) []))) := upd_same
    have a2d : (upd (upd A1 d (.lst [V.int 0])) t (.ins C dx (putF "_depths" (.ref d) (putF "_owns" (.ref o) [])))) d = some (.lst [V.int 0]) := by
      rw [upd_ne htd.symm, upd_same]
    have a2o := k2 _ _ hto.symm a1o
    generalize hA2 : (upd (upd A1 d (.lst [V.int 0])) t (.ins C dx (putF "_depths" (.ref d) (putF "_owns" (.ref o) [])))) = A2 at *
    refine ⟨(by show 0 ≤ sizeLine; decide), fun a ha => ⟨(by show 1 ≤ sizeLine; decide), fun n hn => ?_⟩⟩
    have hn2 : A2 n = none := upd_none hn
    have hta : t ≠ a := fun e => by rw [← e, a2t] at ha; cases ha
    have htn : t ≠ n := fun e => by rw [← e, a2t] at hn2; cases hn2
    have hda : d ≠ a := fun e => by rw [← e, a2d] at ha; cases ha
    have hdn : d ≠ n := fun e => by rw [← e, a2d] at hn2; cases hn2
    have hoa : o ≠ a := fun e => by rw [← e, a2o] at ha; cases ha
    have hon : o ≠ n := fun e => by rw [← e, a2o] at hn2; cases hn2
    have han : a ≠ n := fun e => by
      rw [← e, upd_same] at hn
      cases hn
    have p2 : (putF "_depths" (.ref d) (putF "_owns" (.ref o) ([] : List (Str × V)))).length ≤ 2 := Nat.le_trans (length_putF _ _ _) (Nat.succ_le_succ p1)
    refine ⟨_, rfl, t, C, dx, _, rfl, kep (kep a2t ha) hn, TC.cl, TC.n_on, Nat.lt_of_le_of_lt p2 (by decide), ?_⟩
    have p3 : (putF "_on" (.ref n) (putF "_depths" (.ref d) (putF "_owns" (.ref o) ([] : List (Str × V))))).length ≤ 3 := Nat.le_trans (length_putF _ _ _) (Nat.succ_le_succ p2)
    have k3 : ∀ c u, c ≠ t → A2 c = some u → (upd (upd (upd A2 a (.lst [])) n (.lst [V.ref a])) t (.ins C dx (putF "_on" (.ref n) (putF "_depths" (.ref d) (putF "_owns" (.ref o) []))))) c = some u := fun c u h z => by
      rw [upd_ne h]
      exact kep (kep z ha) hn
    have a3t : (upd (upd (upd A2 a (.lst [])) n (.lst [V.ref a])) t (.ins C dx (putF "_on" (.ref n) (putF "_depths" (.ref d) (putF "_owns" (.ref o) []))))) t = some (.ins C dx (putF "_on" (.ref n) (putF "_depths" (.ref d) (putF "_owns" (.ref o) [])))) := upd_same
    have a3n : (upd (upd (upd A2 a (.lst [])) n (.lst [V.ref a])) t (.ins C dx (putF "_on" (.ref n) (putF "_depths" (.ref d) (putF "_owns" (.ref o) []))))) n = some (.lst [V.ref a]) := by
      rw [upd_ne htn.symm, upd_same]
    have a3a : (upd (upd (upd A2 a (.lst [])) n (.lst [V.ref a])) t (.ins C dx (putF "_on" (.ref n) (putF "_depths" (.ref d) (putF "_owns" (.ref o) []))))) a = some (.lst []) := by
      rw [upd_ne hta.symm, upd_ne han, upd_same]
    refine q _ (fun c => c = o ∨ c = d ∨ c = n ∨ c = a) ⟨⟨dx, o, d, n, _, [a], a3t, ?_, ?_, ?_, fun m hm => ?_, k3 _ _ hto.symm a2o, k3 _ _ htd.symm a2d, a3n, Nat.lt_of_le_of_lt p3 (by decide), rfl, hod, hon, hdn, fun i c hc => ?_, fun i j c h1 h2 => ?_, .inl rfl, .inr (.inl rfl), .inr (.inr (.inl rfl))⟩, (fun _ _ z => nomatch z), Nat.zero_le _⟩ ⟨_, a3t, p3, ?_⟩ (fun c u hc z => k3 _ _ hc (k2 _ _ hc (k1 _ _ hc z))) fun c hc => ?_
    · rw [lookup_putF, if_neg (by decide), lookup_putF, if_neg (by decide), lookup_putF, if_pos rfl]
    · rw [lookup_putF, if_neg (by decide), lookup_putF, if_pos rfl]
    · rw [lookup_putF, if_pos rfl]
    · have hm2 : m ≠ "_on" ∧ m ≠ "_depths" ∧ m ≠ "_owns" := ⟨fun e => hm (by rw [e]; decide), fun e => hm (by rw [e]; decide), fun e => hm (by rw [e]; decide)⟩
      rw [lookup_putF, if_neg hm2.1, lookup_putF, if_neg hm2.2.1, lookup_putF, if_neg hm2.2.2]
      rfl
    · cases i with
      | zero =>
        cases (show some a = some c from hc)
        exact ⟨a3a, hoa.symm, hda.symm, han, .inr (.inr (.inr rfl))⟩
      | succ i => cases hc
    · cases i with
      | zero =>
        cases j with
        | zero => rfl
        | succ j => cases h2
      | succ i => cases h1
    · rw [lookup_putF, if_neg (by decide), lookup_putF, if_neg (by decide), lookup_putF, if_neg (by decide)]
      rfl
    · rcases hc with rfl | rfl | rfl | rfl
      · exact ho
      · exact n1 _ hd
      · exact n1 _ (n2 _ hn2)
      · exact n1 _ (n2 _ ha)
end
end K46
set_option maxHeartbeats 1000000
namespace K46
open PySem PySem.Spec PyProof.Rows L2 Gd Gs
open C8 (clsBody Met pe_mt pe_mt0)
/-- the lists of leaps: of make i those that it keeps, each below i -/
structure Lv (N : Addr → Prop) (H : Hp) (q : Addr) (n : Nat) : Prop where
  ex : ∃ ls : List Addr, H q = some (.lst (ls.map V.ref)) ∧ ls.length = n ∧ N q ∧
    ∀ (i : Nat) (a : Addr), ls[i]? = some a → N a ∧ a ≠ q ∧ ∃ ks : List Nat, H a = some (.lst (ks.map num)) ∧ (∀ x ∈ ks, x < i)
/-- a tree that leaps -/
structure Lw (C : Addr) (N : Addr → Prop) (H : Hp) (t : Addr) (ow : List Nat) : Prop where
  ex : ∃ (N1 N2 : Addr → Prop) (dx q : Addr) (fs : List (Str × V)), Tw N1 H t C ow ∧ H t = some (.ins C dx fs) ∧ fs.lookup ("_leaps" : Str) = some (.ref q) ∧ Lv N2 H q (ow.length + 1) ∧
    (∀ c, N1 c → N2 c → False) ∧ (∀ c, N1 c → N c) ∧ (∀ c, N2 c → N c)
theorem Lw.tr {C t : Addr} {N : Addr → Prop} {H : Hp} {ow : List Nat} (l : Lw C N H t ow) : Tr H t C ow (depths ow) := by
  obtain ⟨N1, N2, dx, q, fs, tw, _⟩ := l.ex
  exact tw.tr
section
variable {P : Program} {w : World} {K : PySem.W.Frag} {mg : Str → Option Value} {base : Heap} {C : Addr}
def spThrough (C : Addr) : Sp := fun vs H Q _ => ∃ (t dx q : Addr) (fs : List (Str × V)) (n own : Nat) (N : Addr → Prop), vs = [.ref t, num own] ∧ H t = some (.ins C dx fs) ∧ fs.lookup ("_leaps" : Str) = some (.ref q) ∧ Lv N H q n ∧
  own < n ∧ n < 100 ∧ ∀ (p : Addr) (H' : Hp) (ks : List Nat), H p = none → Same H H' → H' p = some (.lst (ks.map num)) → (∀ x ∈ ks, x ≤ own) → Q (.ref p) H'
theorem ok_through (T : Txt K mg) (TC : TreeC K C) (M : MAt K C "_leaps_through" "LeapTree._leaps_through" s_LeapTree__leaps_through ["self", "own"]) : Met P w K mg base 1 C "_leaps_through" (spThrough C) [] := by
  refine M.met TC.cl sc_LeapTree__leaps_through (fun vs H Q E h => ?_) (fun f cdv A outer s H vs Q E hr h => ?_)
  · obtain ⟨t, dx, q, fs, n, own, N, rfl, _⟩ := h
    rfl
  · obtain ⟨t, dx, q, fs, n, own, N, rfl, e1, l1, lv, ho, hn, qq⟩ := h
    obtain ⟨ls, e2, hl, Nq, hls⟩ := lv.ex
    refine ⟨_, (pss_cons (ps_set (i := 2) sc_LeapTree__leaps_through.nd rfl (Or.inl rfl) (pe_lst (pa_cons (pv 1) pa_nil)))
      (pss_cons (ps_while PassesOwn.never (pt_cmpR op_ge (pe_callB call_len (by rfl) T.b_len boot_len_ (pa_cons (pe_ix ix_list (pe_fld (pv 0) rfl) (pe_ix ix_list (pv 2) (pe_un un_neg pe_int) (fun _ _ => rfl)) (fun _ _ => rfl)) pa_nil)) (pe_callB call_len (by rfl) T.b_len boot_len_ (pa_cons (pv 2) pa_nil)) (nomark _))
          (pss_one (ps_expr (pe_bm PySem.F.plainAttrs_list PySem.F.slot_list_append PySem.F.type_list_append mt_append (pv 2) (pa_cons (pe_ix ix_list (pe_ix ix_list (pe_fld (pv 0) rfl) (pe_ix ix_list (pv 2) (pe_un un_neg pe_int) (fun _ _ => rfl)) (fun _ _ => rfl)) (pe_op op_sub (pe_callB call_len (by rfl) T.b_len boot_len_ (pa_cons (pv 2) pa_nil)) pe_int) (fun _ _ => rfl)) pa_nil)))))
      (pss_one (ps_ret (pv 2))))), ?_⟩
    refine ⟨_, rfl, (by show 1 ≤ sizeLine; decide), fun l hl0 => ?_⟩
    refine ⟨fun m σ H' => Same H H' ∧ ∃ us : List Nat, σ = [some (.ref t), some (num own), some (.ref l)] ∧ H' l = some (.lst ((us ++ [m]).map num)) ∧ (∀ x ∈ us ++ [m], x ≤ own) ∧ us.length + m ≤ own, ⟨own, same_new hl0, [], rfl, upd_same, (fun x hx => by rw [List.mem_singleton.mp hx]; exact Nat.le_refl _), by simp⟩, ?_⟩
    rintro m σ H' ⟨sm, us, rfl, hL, hall, hle⟩
    have hlast : atI ((us ++ [m]).map num) (-1) = some (num m) := by
      rw [List.map_append]
      exact atI_last _ _
    have hm : m ≤ own := hall m (List.mem_append_right _ List.mem_cons_self)
    obtain ⟨a, ha⟩ : ∃ a, ls[m]? = some a := ⟨_, List.getElem?_eq_getElem (by omega)⟩
    obtain ⟨Na, aq, ks, hks, hlt⟩ := hls m a ha
    have hata : atI (ls.map V.ref) ((m : Nat) : Int) = some (V.ref a) := by
      refine atI_nat ?_
      rw [List.getElem?_map, ha]
      rfl
    have hA := sm _ _ hks
    refine ⟨_, rfl, t, C, dx, fs, .ref q, rfl, sm _ _ e1, TC.cl, TC.n_leaps, l1, _, rfl, _, rfl, l, _, _, _, rfl, rfl, SqL.of hL, hlast, ?_⟩
    refine ⟨q, _, _, _, rfl, rfl, SqL.of (sm _ _ e2), hata, ?_⟩
    refine ⟨.ref a, (ks.map num).length, rfl, .inl ⟨_, SqL.of hA, rfl⟩, ?_⟩
    refine ⟨_, rfl, .ref l, ((us ++ [m]).map num).length, rfl, .inl ⟨_, SqL.of hL, rfl⟩, _, _, rfl, rfl, _, rfl, ?_⟩
    rw [List.length_map, List.length_map, List.length_append]
    refine ite2 (fun hge => ?_) (fun _ => ?_)
    · have h2 : us.length < ks.length := by
        have := of_decide_eq_true hge
        show us.length + 1 ≤ _
        have e : ([m] : List Nat).length = 1 := rfl
        rw [e] at this
        omega
      have hk : ks[us.length]? = some ks[us.length] := List.getElem?_eq_getElem h2
      generalize ks[us.length] = m2 at hk
      have hm2 : m2 < m := hlt m2 (List.mem_of_getElem? hk)
      refine ⟨fun σ' H'' => ∃ m', m' < m ∧ Same H H'' ∧ ∃ us : List Nat, σ' = [some (.ref t), some (num own), some (.ref l)] ∧ H'' l = some (.lst ((us ++ [m']).map num)) ∧ (∀ x ∈ us ++ [m'], x ≤ own) ∧ us.length + m' ≤ own, fun σ' H'' z => z, ?_⟩
      refine ⟨_, rfl, .inl ⟨rfl, _, SqL.of hL⟩, ?_⟩
      refine ⟨_, rfl, t, C, dx, fs, .ref q, rfl, sm _ _ e1, TC.cl, TC.n_leaps, l1, _, rfl, _, rfl, l, _, _, _, rfl, rfl, SqL.of hL, hlast, ?_⟩
      refine ⟨q, _, _, _, rfl, rfl, SqL.of (sm _ _ e2), hata, ?_⟩
      refine ⟨_, rfl, .ref l, ((us ++ [m]).map num).length, rfl, .inl ⟨_, SqL.of hL, rfl⟩, _, _, rfl, rfl, ?_⟩
      have hat2 : atI (ks.map num) (((((us ++ [m]).map num).length : Nat) : Int) - 1) = some (num m2) := by
        have e : (((((us ++ [m]).map num).length : Nat) : Int) - 1) = ((us.length : Nat) : Int) := by
          rw [List.length_map, List.length_append]
          show ((us.length + 1 : Nat) : Int) - 1 = _
          omega
        rw [e]
        refine atI_nat ?_
        rw [List.getElem?_map, hk]
        rfl
      refine ⟨a, _, _, _, rfl, rfl, SqL.of hA, hat2, ?_⟩
      refine ⟨l, _, _, rfl, rfl, hL, ?_, m2, hm2, fun c u z => ?_, us ++ [m], rfl, ?_, ?_, ?_⟩
      · rw [List.length_map, List.length_append]
        exact small1000 (by show us.length + 1 ≤ 1000; omega)
      · rw [upd_ne (ne_of_none z hl0)]
        exact sm c u z
      · rw [upd_same, List.map_append (f := num) (l₁ := us ++ [m])]
        rfl
      · intro x hx
        rcases List.mem_append.mp hx with hx | hx
        · exact hall x hx
        · rw [List.mem_singleton.mp hx]
          omega
      · rw [List.length_append]
        show us.length + 1 + _ ≤ own
        omega
    · exact ⟨_, rfl, qq l _ (us ++ [m]) hl0 sm hL hall⟩
end
end K46
set_option maxHeartbeats 1000000
namespace K46
open PySem PySem.Spec PyProof.Rows L2 Gd Gs
open NdefX (NScope nscope_by ncx startF NF)
open C8 (clsBody Met pe_mt pe_mt0)
theorem Tw.cut {N : Addr → Prop} {H : Hp} {t C : Addr} {ow : List Nat} (w : Tw N H t C ow) : Tw (fun c => N c ∧ c ≠ t ∧ H c ≠ none) H t C ow := by
  obtain ⟨dx, o, d, n, fs, ns, e1, l1, l2, l3, nl, e2, e3, e4, lf, hns, od, on, dn, hin, hnd, No, Nd, Nn⟩ := w.ex
  refine ⟨⟨dx, o, d, n, fs, ns, e1, l1, l2, l3, nl, e2, e3, e4, lf, hns, od, on, dn, fun i a ha => ?_, hnd, ⟨No, fun e => ?_, fun e => ?_⟩, ⟨Nd, fun e => ?_, fun e => ?_⟩, ⟨Nn, fun e => ?_, fun e => ?_⟩⟩, w.low, w.few⟩
  · obtain ⟨h1, a1, a2, a3, a4⟩ := hin i a ha
    refine ⟨h1, a1, a2, a3, a4, fun e => ?_, fun e => ?_⟩
    · rw [e, e1] at h1
      cases h1
    · rw [e] at h1
      cases h1
  · rw [e, e1] at e2
    cases e2
  · rw [e] at e2
    cases e2
  · rw [e, e1] at e3
    cases e3
  · rw [e] at e3
    cases e3
  · rw [e, e1] at e4
    cases e4
  · rw [e] at e4
    cases e4
theorem Tw.kp {N : Addr → Prop} {H H' : Hp} {t C : Addr} {ow : List Nat} (w : Tw N H t C ow) (k : ∀ c u, (N c ∨ c = t) → H c = some u → H' c = some u) : Tw N H' t C ow := by
  obtain ⟨dx, o, d, n, fs, ns, e1, l1, l2, l3, nl, e2, e3, e4, lf, hns, od, on, dn, hin, hnd, No, Nd, Nn⟩ := w.ex
  refine ⟨⟨dx, o, d, n, fs, ns, k _ _ (.inr rfl) e1, l1, l2, l3, nl, k _ _ (.inl No) e2, k _ _ (.inl Nd) e3, k _ _ (.inl Nn) e4, lf, hns, od, on, dn, fun i a ha => ?_, hnd, No, Nd, Nn⟩, w.low, w.few⟩
  obtain ⟨h1, a1, a2, a3, a4⟩ := hin i a ha
  exact ⟨k _ _ (.inl a4) h1, a1, a2, a3, a4⟩
theorem Tw.put {N : Addr → Prop} {H H' : Hp} {t C dx : Addr} {ow : List Nat} {fs fs' : List (Str × V)} (w : Tw N H t C ow) (k : ∀ c u, c ≠ t → H c = some u → H' c = some u)
    (e : H t = some (.ins C dx fs)) (e' : H' t = some (.ins C dx fs')) (hl : fs'.length < 1000) (hf : ∀ m : Str, m ≠ "_leaps" → fs'.lookup m = fs.lookup m) : Tw N H' t C ow := by
  obtain ⟨dx2, o, d, n, fs2, ns, e1, l1, l2, l3, nl, e2, e3, e4, lf, hns, od, on, dn, hin, hnd, No, Nd, Nn⟩ := w.ex
  rw [e] at e1
  cases e1
  have no : o ≠ t := fun z => by rw [z, e] at e2; cases e2
  have nd : d ≠ t := fun z => by rw [z, e] at e3; cases e3
  have nn : n ≠ t := fun z => by rw [z, e] at e4; cases e4
  refine ⟨⟨dx, o, d, n, fs', ns, e', (hf _ (by decide)).trans l1, (hf _ (by decide)).trans l2, (hf _ (by decide)).trans l3, fun m hm => (hf m fun z => hm (by rw [z]; decide)).trans (nl m hm), k _ _ no e2, k _ _ nd e3, k _ _ nn e4, hl, hns, od, on, dn, fun i a ha => ?_, hnd, No, Nd, Nn⟩, w.low, w.few⟩
  obtain ⟨h1, a1, a2, a3, a4⟩ := hin i a ha
  exact ⟨k _ _ (fun z => by rw [z, e] at h1; cases h1) h1, a1, a2, a3, a4⟩
theorem Lv.mono {N N' : Addr → Prop} {H H' : Hp} {q : Addr} {n : Nat} (l : Lv N H q n) (hn : ∀ c, N c → N' c) (k : ∀ c u, N c → H c = some u → H' c = some u) : Lv N' H' q n := by
  obtain ⟨ls, h1, h2, h3, h4⟩ := l.ex
  refine ⟨ls, k _ _ h3 h1, h2, hn _ h3, fun i a ha => ?_⟩
  obtain ⟨a1, a2, ks, a3, a4⟩ := h4 i a ha
  exact ⟨hn _ a1, a2, ks, k _ _ a1 a3, a4⟩
/-- a method of C that begins with super().m, g above it -/
structure SAt (P : Program) (K : PySem.W.Frag) (C : Addr) (m qual : Str) (st : Stmt) (ps : List Str) (g : Addr) : Prop where
  ex : ∃ (f cc c : Addr) (oc : Value) (od : Option Addr) (doc pm : Value) (an : Option Addr) (ct : Value) (osl : Array (Option Value)),
    SupTxt P K C C f g cc ⟨m, qual, defArgs st, defBody st, defScope st, [(("__class__" : Str), cc)], c⟩ m ∧
    K.lookup f = some ⟨oc, od, .func (PySem.W.ksFn m qual (defArgs st) (defBody st) (defScope st) .none .none doc pm an (.ref c) ct cc), osl⟩ ∧ Meth K C m f ∧
    Binds K (PySem.W.ksFn m qual (defArgs st) (defBody st) (defScope st) .none .none doc pm an (.ref c) ct cc) ps []
theorem ns_grow : NScope ["self", "make", "__class__", "number"] ["self", "make"] ["__class__"] (defScope s_LeapTree_grow) := nscope_by (by decide +kernel)
theorem ns_init : NScope ["self", "__class__"] ["self"] ["__class__"] (defScope s_LeapTree___init__) := nscope_by (by decide +kernel)
section
variable {P : Program} {w : World} {K : PySem.W.Frag} {mg : Str → Option Value} {base : Heap} {C : Addr}
def spInitL (C : Addr) : Sp := fun vs H Q _ => ∃ (t dx : Addr), vs = [.ref t] ∧ H t = some (.ins C dx []) ∧
  ∀ (H' : Hp) (N' : Addr → Prop), Lw C N' H' t [] → (∀ c u, c ≠ t → H c = some u → H' c = some u) → (∀ c, N' c → H c = none) → Q .non H'
theorem okL_init {g : Addr} {fd : FuncData} (T : Txt K mg) (TC : TreeC K C) (F : Fun K "__init__" "MakeTree.__init__" s_MakeTree___init__ g fd) (hb : Binds K fd ["self"] []) (S : SAt P K C "__init__" "LeapTree.__init__" s_LeapTree___init__ ["self"] g) :
    ∃ (f : Addr) (fd : FuncData), Meth K C "__init__" f ∧ Binds K fd ["self"] [] ∧ FnOk P w K mg base CX0 2 f fd ["self"] (spInitL C) := by
  obtain ⟨f, cc, c, oc, od, doc, pm, an, ct, osl, sup, lk, me, bi⟩ := S.ex
  refine ⟨f, _, me, bi, ?_⟩
  refine okS_do sup lk ns_init rfl (fun vs H Q E h => ?_) rfl (fn_init T TC F) hb (by rfl) (fun L => by rfl) (fun L => by rfl) ?_
  · obtain ⟨t, dx, rfl, _⟩ := h
    rfl
  · rintro A outer s H vs Q E hr ⟨t, dx, rfl, e1, q⟩
    refine ⟨t, dx, [], E0, _, rfl, e1, pass0, (pss_one (ps_fld (pv 0) (pe_lst (pa_cons (pe_lst pa_nil) pa_nil)) rfl)), ?_⟩
    refine ⟨t, dx, rfl, e1, fun H1 N1 tw ⟨fs, f1, f2, f3⟩ k1 n1 => ?_⟩
    refine ⟨(by show 0 ≤ sizeLine; decide), fun a ha => ⟨(by show 1 ≤ sizeLine; decide), fun p hp => ?_⟩⟩
    have hta : t ≠ a := fun e => by rw [← e, f1] at ha; cases ha
    have hp1 : H1 p = none := upd_none hp
    have htp : t ≠ p := fun e => by rw [← e, f1] at hp1; cases hp1
    have hap : a ≠ p := fun e => by
      rw [← e, upd_same] at hp
      cases hp
    obtain ⟨dx2, _, _, _, _, _, z1, _⟩ := tw.ex
    refine ⟨_, rfl, t, C, _, fs, rfl, kep (kep f1 ha) hp, TC.cl, TC.n_leaps, Nat.lt_of_le_of_lt f2 (by decide), ?_⟩
    have k3 : ∀ c u, c ≠ t → H1 c = some u → (upd (upd (upd H1 a (.lst [])) p (.lst [V.ref a])) t (.ins C dx (putF "_leaps" (.ref p) fs))) c = some u := fun c u h z => by
      rw [upd_ne h]
      exact kep (kep z ha) hp
    refine q _ (fun c => N1 c ∧ c ≠ t ∧ H1 c ≠ none ∨ (c = p ∨ c = a)) ⟨_, (fun c => c = p ∨ c = a), dx, p, _, tw.cut.put k3 f1 upd_same ?_ ?_, upd_same, ?_, ⟨[a], ?_, rfl, .inl rfl, fun i b hb => ?_⟩, fun c h1 h2 => ?_, fun c h => .inl h, fun c h => .inr h⟩ (fun c u hc z => k3 _ _ hc (k1 _ _ hc z)) fun c hc => ?_
    · exact Nat.lt_of_le_of_lt (length_putF _ _ _) (by omega)
    · intro m hm
      rw [lookup_putF, if_neg hm]
    · rw [lookup_putF, if_pos rfl]
    · rw [upd_ne htp.symm, upd_same]
      rfl
    · cases i with
      | zero =>
        cases (show some a = some b from hb)
        refine ⟨.inr rfl, hap, [], ?_, fun x hx => nomatch hx⟩
        rw [upd_ne hta.symm, upd_ne hap, upd_same]
        rfl
      | succ i => cases hb
    · rcases h2 with rfl | rfl
      · exact h1.2.2 hp1
      · exact h1.2.2 ha
    · have bk : ∀ c, c ≠ t → H1 c = none → H c = none := fun c hc z => by
        cases z2 : H c with
        | none => rfl
        | some u =>
          rw [k1 _ _ hc z2] at z
          cases z
      rcases hc with hc | rfl | rfl
      · exact n1 _ hc.1
      · exact bk _ htp.symm hp1
      · exact bk _ hta.symm ha
def spGrowL (C : Addr) : Sp := fun vs H Q _ => ∃ (t : Addr) (ow : List Nat) (i : Nat) (N : Addr → Prop), vs = [.ref t, num i] ∧ Lw C N H t ow ∧ i ≤ ow.length ∧ ow.length < 63 ∧
  ∀ (H' : Hp) (N' : Addr → Prop), Lw C N' H' t (ow ++ [i]) → (∀ c u, ¬ N c → H c = some u → H' c = some u) → (∀ c, N' c → N c ∨ H c = none) → Q (num (ow.length + 1)) H'
theorem okL_grow {g : Addr} {fd : FuncData} (T : Txt K mg) (TC : TreeC K C) (m_many : Met P w K mg base 1 C "many" (spMany C) []) (m__need_make : Met P w K mg base 2 C "_need_make" (spNeed C) []) (m__leaps_through : Met P w K mg base 1 C "_leaps_through" (spThrough C) [])
    (F : Fun K "grow" "MakeTree.grow" s_MakeTree_grow g fd) (hb : Binds K fd ["self", "make"] []) (S : SAt P K C "grow" "LeapTree.grow" s_LeapTree_grow ["self", "make"] g) :
    Met P w K mg base 4 C "grow" (spGrowL C) [] := by
  obtain ⟨f, cc, c, oc, od, doc, pm, an, ct, osl, sup, lk, me, bi⟩ := S.ex
  refine ⟨f, _, _, [], TC.cl, me, ?_, bi, .nil⟩
  refine okS_set (i := 3) sup lk ns_grow rfl (fun vs H Q E h => ?_) rfl rfl rfl (fn_grow T TC m_many m__need_make F) hb (by rfl) (fun L => by rfl) (fun L => by rfl) (fun L => by rfl) (fun L => by rfl) ?_
  · obtain ⟨t, ow, i, N, rfl, _⟩ := h
    rfl
  · rintro A outer s H vs Q E hr ⟨t, ow, i, N, rfl, lw, hi, hf, q⟩
    obtain ⟨N1, N2, dx, q0, fs, tw, e1, l1, lv, dis, i1, i2⟩ := lw.ex
    refine ⟨t, dx, fs, E0, _, _, rfl, e1, pass0, (pa_cons (pv 1) pa_nil), (pss_cons (ps_expr (pe_bm PySem.F.plainAttrs_list PySem.F.slot_list_append PySem.F.type_list_append mt_append (pe_fld (pv 0) rfl) (pa_cons (pe_mt m__leaps_through hr (by decide) (pv 0) (pa_cons (pv 1) pa_nil)) pa_nil))) (pss_one (ps_ret (pv 3)))), ?_⟩
    refine ⟨_, rfl, t, ow, i, _, rfl, tw.cut, hi, hf, fun H1 M1 tw1 k1 n1 => ?_⟩
    obtain ⟨ls, e2, hls, Nq, hin⟩ := lv.ex
    have t1 : H1 t = some (.ins C dx fs) := k1 _ _ (fun z => z.2.1 rfl) e1
    have kv : ∀ c u, N2 c → H c = some u → H1 c = some u := fun c u hc z => k1 _ _ (fun y => dis c y.1 hc) z
    have lv1 : Lv N2 H1 q0 (ow.length + 1) := lv.mono (fun _ z => z) kv
    have q1 : H1 q0 = some (.lst (ls.map V.ref)) := kv _ _ Nq e2
    have hqt : q0 ≠ t := fun z => by rw [z, e1] at e2; cases e2
    refine ⟨_, rfl, t, C, dx, fs, .ref q0, rfl, t1, TC.cl, TC.n_leaps, l1, .inl ⟨rfl, _, SqL.of q1⟩, ?_⟩
    obtain ⟨dx2, _, _, _, fs2, _, y1, _, _, _, y5, _⟩ := tw1.ex
    rw [t1] at y1
    cases y1
    refine ⟨_, rfl, t, dx, fs, rfl, t1, y5 _ (by decide), _, rfl, t, dx, q0, fs, _, i, N2, rfl, t1, l1, lv1, by omega, by omega, fun p H2 ks hp sm hk hle => ?_⟩
    have q2 := sm _ _ q1
    have hpq : p ≠ q0 := fun z => by rw [z, q1] at hp; cases hp
    have hpt : p ≠ t := fun z => by rw [z, t1] at hp; cases hp
    have hq3 : (upd H2 q0 (.lst (ls.map V.ref ++ [V.ref p]))) q0 = some (.lst ((ls ++ [p]).map V.ref)) := by
      rw [upd_same, List.map_append]
      rfl
    refine ⟨q0, _, _, rfl, rfl, q2, small1000 (by rw [List.length_map]; omega), ?_⟩
    have k3 : ∀ c u, c ≠ q0 → H1 c = some u → (upd H2 q0 (.lst (ls.map V.ref ++ [V.ref p]))) c = some u := fun c u hc z => by
      rw [upd_ne hc]
      exact sm _ _ z
    have kp3 : (upd H2 q0 (.lst (ls.map V.ref ++ [V.ref p]))) p = some (.lst (ks.map num)) := by
      rw [upd_ne hpq]
      exact hk
    generalize upd H2 q0 (.lst (ls.map V.ref ++ [V.ref p])) = H3 at *
    have nq : ∀ c, M1 c → c ≠ q0 := fun c hc z => by
      subst z
      rcases n1 _ hc with h | h
      · exact dis _ h.1 Nq
      · rw [e2] at h
        cases h
    refine ⟨_, rfl, q _ (fun c => (M1 c ∧ c ≠ t ∧ H1 c ≠ none) ∨ ((N2 c ∧ H c ≠ none) ∨ c = p)) ⟨_, (fun c => (N2 c ∧ H c ≠ none) ∨ c = p), dx, q0, fs, tw1.cut.kp fun c u hc z => ?_, k3 _ _ hqt.symm t1, l1, ⟨ls ++ [p], hq3, ?_, .inl ⟨Nq, fun z => by rw [e2] at z; cases z⟩, fun j b hb => ?_⟩, fun c h1 h2 => ?_, fun c h => .inl h, fun c h => .inr h⟩ (fun c u hc z => ?_) fun c hc => ?_⟩
    · rcases hc with hc | rfl
      · exact k3 _ _ (nq _ hc.1) z
      · exact k3 _ _ hqt.symm z
    · rw [List.length_append, List.length_append, hls]
      rfl
    · by_cases hj : j < ls.length
      · rw [List.getElem?_append_left hj] at hb
        obtain ⟨a1, a2, ks2, a3, a4⟩ := hin j b hb
        exact ⟨.inl ⟨a1, fun z => by rw [a3] at z; cases z⟩, a2, ks2, k3 _ _ a2 (kv _ _ a1 a3), a4⟩
      · rw [List.getElem?_append_right (by omega)] at hb
        by_cases h0 : j - ls.length = 0
        · rw [h0] at hb
          cases (show some p = some b from hb)
          exact ⟨.inr rfl, hpq, ks, kp3, fun x hx => by have := hle x hx; omega⟩
        · rw [List.getElem?_eq_none (by show 1 ≤ _; omega)] at hb
          cases hb
    · rcases h2 with h2 | rfl
      · rcases n1 _ h1.1 with h | h
        · exact dis _ h.1 h2.1
        · exact h2.2 h
      · exact h1.2.2 hp
    · have h1 : ¬ N1 c := fun y => hc (i1 _ y)
      have h2 : ¬ N2 c := fun y => hc (i2 _ y)
      exact k3 _ _ (fun y => h2 (y ▸ Nq)) (k1 _ _ (fun y => h1 y.1) z)
    · rcases hc with hc | hc | rfl
      · rcases n1 _ hc.1 with h | h
        · exact .inl (i1 _ h.1)
        · exact .inr h
      · exact .inl (i2 _ hc.1)
      · by_cases y : N1 c
        · exact .inl (i1 _ y)
        · refine .inr ?_
          cases z2 : H c with
          | none => rfl
          | some u =>
            rw [k1 _ _ (fun x => y x.1) z2] at hp
            cases hp
end
end K46
set_option maxHeartbeats 1000000
namespace K46
open PySem PySem.Spec PyProof.Rows L2 Gd
open C8 (clsBody Met pe_mt pe_mt0)
abbrev kLf : Key := Sum.inr "left"
abbrev kSd : Key := Sum.inr "seed"
abbrev kTn : Key := Sum.inr "turn"
theorem putK_old {κ : Type} [DecidableEq κ] {kvs : List (κ × V)} {k : κ} {v x : V} (h : valV kvs k = some x) : (putK kvs k v).length = kvs.length := by
  unfold putK
  rw [if_pos (by rw [valV_any, h]; rfl), List.length_map]
/-- the box of a cell, at most so many numbers drawn -/
def BoxD (H : Hp) (b : Addr) (n : Int) : Prop := ∃ (x y z : Int) (kvs : List (Key × V)), H b = some (.dK kvs) ∧ kvs.length = 3 ∧ valV kvs kLf = some (.int x) ∧ valV kvs kSd = some (.int y) ∧ valV kvs kTn = some (.int z) ∧ 0 ≤ x ∧ 0 ≤ y ∧ y < 2147483647 ∧ 0 ≤ z ∧ z ≤ n
theorem BoxD.kp {H H' : Hp} {b : Addr} {n : Int} (h : BoxD H b n) (k : ∀ u, H b = some u → H' b = some u) : BoxD H' b n := by
  obtain ⟨x, y, z, kvs, h1, h2⟩ := h
  exact ⟨x, y, z, kvs, k _ h1, h2⟩
theorem BoxD.some {H : Hp} {b : Addr} {n : Int} (h : BoxD H b n) : ∃ u, H b = some u := by
  obtain ⟨x, y, z, kvs, h1, h2⟩ := h
  exact ⟨_, h1⟩
theorem BoxD.up {H : Hp} {b : Addr} {n m : Int} (h : BoxD H b n) (k : n ≤ m) : BoxD H b m := by
  obtain ⟨x, y, z, kvs, h1, h2, h3, h4, h5, h6, h7, h8, h9, h10⟩ := h
  exact ⟨x, y, z, kvs, h1, h2, h3, h4, h5, h6, h7, h8, h9, by omega⟩
theorem BoxD.ne {H : Hp} {b p : Addr} {n : Int} (h : BoxD H b n) (e : H p = none) : p ≠ b := fun z => by
  obtain ⟨u, hu⟩ := h.some
  rw [z, hu] at e
  cases e
theorem dgs {H : Hp} {a : Addr} {kvs : List (Key × V)} {k : Str} {v : V} (e : H a = some (.dK kvs)) (h : valV kvs (Sum.inr k) = some v) : DGet H a (.str k) (some v) := h ▸ DGet.k (k := Sum.inr k) e
section
variable {P : Program} {w : World} {K : PySem.W.Frag} {mg : Str → Option Value} {base : Heap} {C : Addr}
theorem ok_cell (T : Txt K mg) (D : DefAt K mg "_law_cell_at" s__law_cell_at ["_law_script", "_law_k"]) : CalG P w K mg base 1 "_law_cell_at" (Gd.spCell K) := by
  refine D.cal sc__law_cell_at (fun vs H Q E h => ?_) (fun f cdv A outer s H vs Q E hG hr h => ?_)
  · obtain ⟨a, ns, k, rfl, _⟩ := h
    rfl
  · obtain ⟨a, ns, k, rfl, hS, hl, hk, q⟩ := h
    refine ⟨_, (pss_cons (ps_if (pt_cmpR op_lt (pv 1) (pe_callB call_len (by rfl) T.b_len boot_len_ (pa_cons (pv 0) pa_nil)) (nomark _))
          (pss_one (ps_ret (pe_ix ix_list (pv 0) (pv 1) (fun _ _ => rfl)))) pss_nil)
      (pss_one (ps_ret (pe_op op_add (pe_op op_mul pe_int (pv 1)) pe_int)))), ?_⟩
    refine ⟨_, rfl, _, rfl, _, _, rfl, .inl ⟨_, hS, rfl⟩, _, _, rfl, rfl, _, rfl, ?_⟩
    refine ite2 (fun e => ?_) (fun e => ?_)
    · have e2 := of_decide_eq_true e
      rw [List.length_map] at e2
      obtain ⟨n, hn⟩ := atI_ints hk e2
      exact ⟨_, rfl, _, rfl, _, _, _, _, rfl, rfl, hS, hn, q n⟩
    · exact ⟨_, rfl, _, _, rfl, rfl, .inl ⟨by decide, by decide⟩, _, _, rfl, rfl, q _⟩
def spBoxD : Sp := fun vs H Q _ => ∃ n : Int, vs = [.int n] ∧ ∀ (b : Addr) (H' : Hp), H b = none → BoxD H' b 0 → (∀ c, c ≠ b → H' c = H c) → Q (.ref b) H'
theorem ok_box (T : Txt K mg) (D : DefAt K mg "_law_box" s__law_box ["_law_cell"]) : CalG P w K mg base 1 "_law_box" spBoxD := by
  refine D.cal sc__law_box (fun vs H Q E h => ?_) (fun f cdv A outer s H vs Q E hG hr h => ?_)
  · obtain ⟨n, rfl, _⟩ := h
    rfl
  · obtain ⟨n, rfl, q⟩ := h
    refine ⟨_, (pss_one (ps_ret (pe_disp (pps_cons pe_str (pe_callB (call_max2 rfl) (by rfl) T.b_max boot_max_ (pa_cons pe_int (pa_cons (pe_op op_sub (pv 0) (pe_op op_pow pe_int pe_int)) pa_nil))) (pps_cons pe_str (pe_op op_mod (pv 0) pe_int) (pps_cons pe_str pe_int pps_nil))) (by rfl) (by rfl) (fun z => by cases z) (by decide)))), ?_⟩
    intro b hb
    refine ⟨_, rfl, _, _, rfl, rfl, ⟨by decide, by decide, by decide⟩, _, _, rfl, rfl, _, _, rfl, ?_⟩
    refine ⟨_, rfl, _, _, rfl, rfl, (by show (0 : Int) < 2147483647; decide), ?_⟩
    refine ⟨upd_same, [(kLf, _), (kSd, _), (kTn, .int 0)], rfl, (by show 3 ≤ 15; decide), ?_⟩
    refine q b _ hb ⟨_, _, _, _, upd_same, rfl, valV_pos rfl, (valV_neg (show ¬ kLf = kSd by decide)).trans (valV_pos rfl), (valV_neg (show ¬ kLf = kTn by decide)).trans ((valV_neg (show ¬ kSd = kTn by decide)).trans (valV_pos rfl)), ?_, ?_, ?_, by decide, by decide⟩ fun c hc => ?_
    · split <;> omega
    · exact Int.emod_nonneg _ (by decide)
    · exact Int.emod_lt_of_pos _ (by decide)
    · rw [upd_ne hc, upd_ne hc]
def spTakeD : Sp := fun vs H Q _ => ∃ (b : Addr) (m n : Int), vs = [.ref b, .int m] ∧ BoxD H b n ∧ n ≤ 1000000 ∧ 0 < m ∧ m ≤ 1000000000 ∧
  ∀ (d : Int) (H' : Hp), 0 ≤ d → d < m → BoxD H' b (n + 1) → (∀ c, c ≠ b → H' c = H c) → Q (.int d) H'
theorem ok_take (T : Txt K mg) (D : DefAt K mg "_law_take" s__law_take ["_law_box_here", "_law_many"]) : CalG P w K mg base 1 "_law_take" spTakeD := by
  refine D.cal sc__law_take (fun vs H Q E h => ?_) (fun f cdv A outer s H vs Q E hG hr h => ?_)
  · obtain ⟨b, m, n, rfl, _⟩ := h
    rfl
  · obtain ⟨b, m, n, rfl, hB, hn, hm0, hm1, q⟩ := h
    obtain ⟨x, y, z, kvs, hb, hl3, vl, vs, vt, hx, hy0, hy1, hz0, hz1⟩ := hB
    refine ⟨_, (pss_cons (ps_if (pt_cmpR op_gt (pe_dget (hu_of hr) (pv 0) pe_str (fun _ _ => rfl)) pe_int (nomark _))
          (pss_cons (ps_set (i := 2) sc__law_take.nd rfl (Or.inl rfl) (pe_op op_mod (pe_dget (hu_of hr) (pv 0) pe_str (fun _ _ => rfl)) (pv 1)))
          (pss_cons (ps_dput (hu_of hr) (pv 0) pe_str (pe_op op_fdiv (pe_dget (hu_of hr) (pv 0) pe_str (fun _ _ => rfl)) (pv 1)) rfl)
          (pss_one (ps_ret (pv 2))))) pss_nil)
      (pss_cons (ps_dput (hu_of hr) (pv 0) pe_str (pe_op op_add (pe_dget (hu_of hr) (pv 0) pe_str (fun _ _ => rfl)) pe_int) rfl)
      (pss_cons (ps_set (i := 3) sc__law_take.nd rfl (Or.inl rfl) (pe_op op_mod (pe_op op_pow (pe_op op_add (pe_dget (hu_of hr) (pv 0) pe_str (fun _ _ => rfl)) (pe_op op_mul pe_int (pe_dget (hu_of hr) (pv 0) pe_str (fun _ _ => rfl)))) pe_int) pe_int))
      (pss_cons (ps_set (i := 3) sc__law_take.nd rfl (Or.inl rfl) (pe_op op_mod (pe_op op_pow (pe_op op_add (pv 3) (pe_op op_mul pe_int (pe_dget (hu_of hr) (pv 0) pe_str (fun _ _ => rfl)))) pe_int) pe_int))
      (pss_one (ps_ret (pe_op op_mod (pe_op op_fdiv (pv 3) pe_int) (pv 1)))))))), ?_⟩
    refine ⟨_, rfl, b, _, rfl, dgs hb vl, _, _, rfl, rfl, _, rfl, ?_⟩
    refine ite2 (fun e => ?_) (fun e => ?_)
    · have e2 := of_decide_eq_true e
      refine ⟨_, rfl, b, _, rfl, dgs hb vl, _, rfl, _, _, rfl, rfl, hm0, ?_⟩
      refine ⟨_, rfl, b, _, rfl, dgs hb vl, _, rfl, _, _, rfl, rfl, ⟨hm0, by omega⟩, ?_⟩
      refine ⟨_, rfl, b, _, rfl, DPut.k (k := kLf) hb (small1000 (by omega)), ?_⟩
      refine ⟨_, rfl, ?_⟩
      refine q _ _ (Int.emod_nonneg _ (by omega)) (Int.emod_lt_of_pos _ hm0) ⟨x / m, y, z, _, upd_same, ?_, ?_, ?_, ?_, ?_, hy0, hy1, hz0, by omega⟩ fun c hc => upd_ne hc
      · rw [putK_old vl]
        exact hl3
      · rw [valV_put, if_pos rfl]
      · rw [valV_put, if_neg (by decide)]
        exact vs
      · rw [valV_put, if_neg (by decide)]
        exact vt
      · exact Int.ediv_nonneg (by omega) (by omega)
    · refine ⟨_, rfl, b, _, rfl, dgs hb vt, _, _, rfl, rfl, ?_⟩
      refine ⟨_, rfl, b, _, rfl, DPut.k (k := kTn) hb (small1000 (by omega)), ?_⟩
      have hb1 : (upd H b (.dK (putK kvs kTn (.int (z + 1))))) b = some (.dK (putK kvs kTn (.int (z + 1)))) := upd_same
      have vl1 : valV (putK kvs kTn (.int (z + 1))) kLf = some (.int x) := by rw [valV_put, if_neg (by decide)]; exact vl
      have vs1 : valV (putK kvs kTn (.int (z + 1))) kSd = some (.int y) := by rw [valV_put, if_neg (by decide)]; exact vs
      have vt1 : valV (putK kvs kTn (.int (z + 1))) kTn = some (.int (z + 1)) := by rw [valV_put, if_pos rfl]
      have hl1 : (putK kvs kTn (.int (z + 1))).length = 3 := by rw [putK_old vt]; exact hl3
      generalize putK kvs kTn (.int (z + 1)) = kv1 at *
      refine ⟨_, rfl, b, _, rfl, dgs hb1 vs1, _, rfl, b, _, rfl, dgs hb1 vt1, _, _, rfl, rfl, .inl ⟨by omega, by omega⟩, _, _, rfl, rfl, ?_⟩
      refine ⟨_, _, rfl, rfl, ⟨by decide, by decide, by omega⟩, _, _, rfl, rfl, (by show (0 : Int) < 2147483629; decide), ?_⟩
      generalize hA : (y + 7919 * (z + 1)) ^ (3 : Int).toNat % 2147483629 = A
      have a0 : 0 ≤ A := hA ▸ Int.emod_nonneg _ (by decide)
      have a1 : A < 2147483629 := hA ▸ Int.emod_lt_of_pos _ (by decide)
      clear hA
      refine ⟨_, rfl, _, rfl, b, _, rfl, dgs hb1 vt1, _, _, rfl, rfl, .inl ⟨by omega, by omega⟩, _, _, rfl, rfl, ?_⟩
      refine ⟨_, _, rfl, rfl, ⟨by decide, by decide, by omega⟩, _, _, rfl, rfl, (by show (0 : Int) < 2147483587; decide), ?_⟩
      refine ⟨_, rfl, _, _, rfl, rfl, ⟨by decide, by decide⟩, ?_⟩
      refine ⟨_, rfl, _, _, rfl, rfl, hm0, ?_⟩
      exact q _ _ (Int.emod_nonneg _ (by omega)) (Int.emod_lt_of_pos _ hm0) ⟨_, _, _, _, hb1, hl1, vl1, vs1, vt1, hx, hy0, hy1, by omega, by omega⟩ fun c hc => upd_ne hc
end
end K46
set_option maxHeartbeats 1000000
namespace K46
open PySem PySem.Spec PyProof.Rows L2 Gd Gs
open C8 (clsBody Met pe_mt pe_mt0)
section
variable {P : Program} {w : World} {K : PySem.W.Frag} {mg : Str → Option Value} {base : Heap} {C CL : Addr}
theorem Lw.cut {C t : Addr} {N : Addr → Prop} {H : Hp} {ow : List Nat} (l : Lw C N H t ow) : Lw C (fun c => N c ∧ H c ≠ none) H t ow := by
  obtain ⟨N1, N2, dx, q, fs, tw, e1, l1, lv, dis, i1, i2⟩ := l.ex
  obtain ⟨ls, h1, h2, h3, h4⟩ := lv.ex
  refine ⟨_, (fun c => N2 c ∧ H c ≠ none), dx, q, fs, tw.cut, e1, l1, ⟨ls, h1, h2, ⟨h3, fun z => by rw [h1] at z; cases z⟩, fun i a ha => ?_⟩, fun c h1 h2 => dis c h1.1 h2.1, fun c h => ⟨i1 _ h.1, h.2.2⟩, fun c h => ⟨i2 _ h.1, h.2⟩⟩
  obtain ⟨a1, a2, ks, a3, a4⟩ := h4 i a ha
  exact ⟨⟨a1, fun z => by rw [a3] at z; cases z⟩, a2, ks, a3, a4⟩
theorem Lw.kp {C t : Addr} {N : Addr → Prop} {H H' : Hp} {ow : List Nat} (r : Lw C N H t ow) (k : ∀ c u, (N c ∨ c = t) → H c = some u → H' c = some u) : Lw C N H' t ow := by
  obtain ⟨N1, N2, dx, q, fs, tw, e1, l1, lv, dis, i1, i2⟩ := r.ex
  exact ⟨N1, N2, dx, q, fs, tw.kp fun c u y z => k c u (y.imp (i1 c) id) z, k _ _ (.inr rfl) e1, l1, lv.mono (fun _ z => z) fun c u y z => k c u (.inl (i2 c y)) z, dis, i1, i2⟩
theorem Lw.same {C t : Addr} {N : Addr → Prop} {H H' : Hp} {ow : List Nat} (r : Lw C N H t ow) (s : Same H H') : Lw C N H' t ow := r.kp fun c u _ z => s c u z
/-- what stands for the own make -/
def ownV (ow : List Nat) (i : Nat) : V := if i = 0 then .non else num (par ow i)
theorem at_any {ow : List Nat} {i : Nat} (h1 : i ≤ ow.length) : atI (V.non :: ow.map num) ((i : Nat) : Int) = some (ownV ow i) := by
  by_cases h0 : 0 < i
  · rw [at_own h0 h1]
    unfold ownV
    rw [if_neg (by omega)]
  · have e : i = 0 := by omega
    subst e
    exact atI_nat (j := 0) rfl
def spOwn (C : Addr) : Sp := fun vs H Q _ => ∃ (t : Addr) (ow ds : List Nat) (i : Nat), vs = [.ref t, num i] ∧ Tr H t C ow ds ∧ i ≤ ow.length ∧ Q (ownV ow i) H
theorem ok_own (T : Txt K mg) (TC : TreeC K C) (m__need_make : Met P w K mg base 2 C "_need_make" (spNeed C) []) (M : MAt K C "own" "MakeTree.own" s_MakeTree_own ["self", "make"]) :
    Met P w K mg base 3 C "own" (spOwn C) [] := by
  refine M.met TC.cl sc_MakeTree_own (fun vs H Q E h => ?_) (fun f cdv A outer s H vs Q E hr h => ?_)
  · obtain ⟨t, ow, ds, i, rfl, _⟩ := h
    rfl
  · obtain ⟨t, ow, ds, i, rfl, tr, hi, q⟩ := h
    obtain ⟨dx, o, d, n, fs, e1, l1, l2, l3, nl, e2, e3, lf⟩ := tr.ex
    refine ⟨_, (pss_cons (ps_expr (pe_mt m__need_make hr (by decide) (pv 0) (pa_cons (pv 1) pa_nil)))
      (pss_one (ps_ret (pe_ix ix_list (pe_fld (pv 0) rfl) (pv 1) (fun _ _ => rfl))))), ?_⟩
    refine ⟨_, rfl, t, dx, fs, rfl, e1, nl _ (by decide), _, rfl, t, ow, ds, i, rfl, tr, hi, ?_⟩
    exact ⟨_, rfl, t, C, dx, fs, .ref o, rfl, e1, TC.cl, TC.n_owns, l1, _, rfl, o, _, _, _, rfl, rfl, SqL.of e2, at_any hi, q⟩
def spGrowR (R : (Addr → Prop) → Hp → Addr → List Nat → Prop) : Sp := fun vs H Q _ => ∃ (t : Addr) (ow : List Nat) (i : Nat) (N : Addr → Prop), vs = [.ref t, num i] ∧ R N H t ow ∧ i ≤ ow.length ∧ ow.length < 63 ∧
  ∀ (H' : Hp) (N' : Addr → Prop), R N' H' t (ow ++ [i]) → (∀ c u, ¬ N c → H c = some u → H' c = some u) → (∀ c, N' c → N c ∨ H c = none) → Q (num (ow.length + 1)) H'
def spAlike (C : Addr) (R : (Addr → Prop) → Hp → Addr → List Nat → Prop) : Sp := fun vs H Q _ => ∃ (t u : Addr) (ow : List Nat) (N : Addr → Prop) (H0 : Hp), vs = [.ref t, .ref u] ∧ Same H0 H ∧ Tr H0 t C ow (depths ow) ∧ R N H u [] ∧ (∀ c, N c → H0 c = none) ∧ H0 u = none ∧
  ∀ (H' : Hp) (N' : Addr → Prop), R N' H' u ow → (∀ c, N' c → H0 c = none) → Same H0 H' → Q (.ref u) H'
/-- what a reading of trees must give -/
structure Rd (C : Addr) (R : (Addr → Prop) → Hp → Addr → List Nat → Prop) : Prop where
  tr : ∀ N H t ow, R N H t ow → Tr H t C ow (depths ow)
  cut : ∀ N H t ow, R N H t ow → R (fun c => N c ∧ H c ≠ none) H t ow
  same : ∀ N H H' t ow, R N H t ow → Same H H' → R N H' t ow
theorem ok_alike {R : (Addr → Prop) → Hp → Addr → List Nat → Prop} (TC : TreeC K C) (rd : Rd C R) (m_grow : Met P w K mg base 4 C "grow" (spGrowR R) []) (M : MAt K C "_grown_alike" "MakeTree._grown_alike" s_MakeTree__grown_alike ["self", "other"]) :
    Met P w K mg base 5 C "_grown_alike" (spAlike C R) [] := by
  refine M.met TC.cl sc_MakeTree__grown_alike (fun vs H Q E h => ?_) (fun f cdv A outer s H vs Q E hr h => ?_)
  · obtain ⟨t, u, ow, N, H0, rfl, _⟩ := h
    rfl
  · obtain ⟨t, u, ow, N0, H0, rfl, s0, tr0, rk, fr0, nu, q⟩ := h
    obtain ⟨dx0, o0, d0, n0, fs0, e1, l1, l2, l3, nl0, e2, e3, lf⟩ := (tr0.same s0).ex
    refine ⟨_, (pss_cons (ps_for PassesOwn.never rfl (pi_list (pe_slice sl_list (pe_fld (pv 0) rfl) (po_some pe_int) po_none)) (pg_name (i := 2) sc_MakeTree__grown_alike.nd rfl (Or.inl rfl))
          (pss_one (ps_expr (pe_mt m_grow hr (by decide) (pv 1) (pa_cons (pv 2) pa_nil)))))
      (pss_one (ps_ret (pv 1)))), ?_⟩
    refine ⟨_, rfl, t, C, dx0, fs0, .ref o0, rfl, e1, TC.cl, TC.n_owns, l1, _, rfl, o0, _, rfl, SqL.of e2, fun p hp => ?_⟩
    rw [show (some (1 : Int)) = some (((1 : Nat) : Int)) from rfl, cut_from, List.drop_one, List.tail_cons]
    refine ⟨p, rfl, ⟨_, SqL.of upd_same⟩, ?_⟩
    refine for_list (K := K) (a := p) (xs := ow.map num) (fun i σ H' => Same H0 H' ∧ H' p = some (.lst (ow.map num)) ∧ ∃ (N : Addr → Prop) (y : Option V), σ = [some (.ref t), some (.ref u), y] ∧ R N H' u (ow.take i) ∧ ¬ N p ∧ (∀ c, N c → H0 c = none))
      ⟨s0.trans (same_new hp), upd_same, (fun c => N0 c ∧ H c ≠ none), none, rfl, rd.same _ _ _ _ _ (rd.cut _ _ _ _ rk) (same_new hp), fun z => z.2 hp, fun c z => fr0 c z.1⟩ (fun i σ H' _ hP => SqL.of hP.2.1) (fun i x σ H2 hi hP => ?_) (fun σ H' hP => ?_)
    · obtain ⟨sm, hp2, N, y, rfl, rk2, nN, fr⟩ := hP
      rw [List.getElem?_map] at hi
      cases hj : ow[i]? with
      | none =>
        rw [hj] at hi
        cases hi
      | some j =>
        rw [hj] at hi
        cases (show some (num j) = some x from hi)
        have hlen : i < ow.length := by
          by_cases z : i < ow.length
          · exact z
          · rw [List.getElem?_eq_none (by omega)] at hj
            cases hj
        have tr := rd.tr _ _ _ _ rk2
        have few := tr0.few
        obtain ⟨dx, o, d, n, fs, e1, l1, l2, l3, nl, _⟩ := tr.ex
        have hlt : (ow.take i).length = i := by rw [List.length_take]; omega
        refine ⟨_, rfl, u, dx, fs, rfl, e1, nl _ (by decide), _, rfl, u, ow.take i, j, N, rfl, rk2, ?_, by omega, fun H3 N3 rk3 k3 n3 => ?_⟩
        · rw [hlt]
          exact tr0.low _ _ hj
        · refine ⟨fun c v z => k3 _ _ (fun y => by rw [fr _ y] at z; cases z) (sm _ _ z), k3 _ _ nN hp2, N3, _, rfl, ?_, fun z => ?_, fun c z => ?_⟩
          · rw [List.take_add_one, hj]
            exact rk3
          · rcases n3 _ z with h | h
            · exact nN h
            · rw [hp2] at h
              cases h
          · rcases n3 _ z with h | h
            · exact fr _ h
            · exact none_of sm h
    · obtain ⟨sm, hp2, N, y, rfl, rk2, nN, fr⟩ := hP
      have e : ow.take (ow.map num).length = ow := by
        rw [List.length_map]
        exact List.take_length
      rw [e] at rk2
      exact ⟨_, rfl, q H' N rk2 fr sm⟩
def spCopied (C : Addr) (R : (Addr → Prop) → Hp → Addr → List Nat → Prop) : Sp := fun vs H Q _ => ∃ (t : Addr) (ow : List Nat), vs = [.ref t] ∧ Tr H t C ow (depths ow) ∧
  ∀ (u : Addr) (H' : Hp) (N' : Addr → Prop), H u = none → R N' H' u ow → (∀ c, N' c → H c = none) → Same H H' → Q (.ref u) H'
theorem made_same {H H' : Hp} {t dx C : Addr} (n1 : H t = none) (n2 : H dx = none) (k : ∀ c u, c ≠ t → (upd (upd H dx (.own t)) t (.ins C dx [])) c = some u → H' c = some u) : Same H H' := fun c u z =>
  k c u (ne_of_none z n1) (by rw [upd_ne (ne_of_none z n1), upd_ne (ne_of_none z n2)]; exact z)
theorem ok_copiedL {fL : Addr} {fdL : FuncData} (TC : TreeC K C) (cL : mg "LeapTree" = some (.ref C)) (M_LeapTree : Mk K C fL) (B_LeapTree : Binds K fdL ["self"] []) (G_LeapTree : FnOk P w K mg base CX0 2 fL fdL ["self"] (spInitL C))
    (m__grown_alike : Met P w K mg base 5 C "_grown_alike" (spAlike C (Lw C)) []) (M : MAt K C "copied" "LeapTree.copied" s_LeapTree_copied ["self"]) : Met P w K mg base 6 C "copied" (spCopied C (Lw C)) [] := by
  refine M.met TC.cl sc_LeapTree_copied (fun vs H Q E h => ?_) (fun f cdv A outer s H vs Q E hr h => ?_)
  · obtain ⟨t, ow, rfl, _⟩ := h
    rfl
  · obtain ⟨t, ow, rfl, tr, q⟩ := h
    obtain ⟨dx, o, d, n, fs, e1, l1, l2, l3, nl, e2, e3, lf⟩ := tr.ex
    refine ⟨_, (pss_one (ps_ret (pe_mt m__grown_alike hr (by decide) (pv 0) (pa_cons (pe_make0 M_LeapTree G_LeapTree (hr.mono (by decide)) rfl cL B_LeapTree .nil pass0) pa_nil)))), ?_⟩
    refine ⟨_, rfl, t, dx, fs, rfl, e1, nl _ (by decide), ?_⟩
    intro u du n1 n2 ne
    refine ⟨u, du, rfl, upd_same, fun H1 N1 tw k1 f1 => ⟨rfl, ?_⟩⟩
    have sm := made_same n1 n2 k1
    exact ⟨t, u, ow, N1, H, rfl, sm, tr, tw, fun c hc => upd_none (upd_none (f1 c hc)), n1, fun H' N' r f s => q u H' N' n1 r f s⟩
end
end K46
set_option maxHeartbeats 1000000
namespace K46
open PySem PySem.Spec PyProof.Rows L2 Gd
open C8 (clsBody Met pe_mt pe_mt0)
def big30 : Int := 10 ^ 30 - 1
theorem b30 : big30 = 999999999999999999999999999999 := by decide
theorem none_of' {H H' : Hp} {p : Addr} (sm : Same H H') (h : H' p = none) : H p = none := by
  cases e : H p with
  | none => rfl
  | some u =>
    rw [sm p u e] at h
    cases h
/-- a class of rows in the lined way -/
structure RowC (K : PySem.W.Frag) (C : Addr) : Prop where
  cl : Cls K C
  n_size : NoAttr K C "_row_size"
  n_tree : NoAttr K C "_row_tree"
  n_places : NoAttr K C "_row_places"
  n_kept : NoAttr K C "_row_kept"
  n_steps : NoAttr K C "_row_steps"
  n_boxes : NoAttr K C "_boxes"
  n_order : NoAttr K C "_order"
def rfields : List Str := ["_row_size", "_row_tree", "_row_places", "_row_kept", "_row_steps", "_boxes", "_order"]
def bfields : List Str := ["_row_size", "_row_tree", "_row_places", "_row_kept", "_row_steps"]
theorem getD_old {α : Type} {xs : List α} {x d : α} {i : Nat} (h : i < xs.length) : (xs ++ [x]).getD i d = xs.getD i d := by
  rw [List.getD_eq_getElem?_getD, List.getD_eq_getElem?_getD, List.getElem?_append_left h]
theorem getD_new {α : Type} {xs : List α} {x d : α} : (xs ++ [x]).getD xs.length d = x := by
  rw [List.getD_eq_getElem?_getD, List.getElem?_append_right (Nat.le_refl _), Nat.sub_self]
  rfl
/-- the makes from a make up to the writer of a place -/
def upw (ow pc : List Nat) (q : Nat) : Nat → Nat → List Nat
  | 0, i => [i]
  | f + 1, i => if i = 0 then [i] else if pc.getD (i - 1) 0 = q then [i] else i :: upw ow pc q f (par ow i)
/-- the writer -/
def wrt (ow pc : List Nat) (q : Nat) : Nat → Nat → Nat
  | 0, i => i
  | f + 1, i => if i = 0 then i else if pc.getD (i - 1) 0 = q then i else wrt ow pc q f (par ow i)
theorem upw_last (ow pc : List Nat) (q : Nat) : ∀ f i : Nat, ∃ pre, upw ow pc q f i = pre ++ [wrt ow pc q f i] ∧ pre.length ≤ f
  | 0, i => ⟨[], rfl, Nat.le_refl 0⟩
  | f + 1, i => by
    unfold upw wrt
    by_cases h : i = 0
    · rw [if_pos h, if_pos h]
      exact ⟨[], rfl, Nat.zero_le _⟩
    · rw [if_neg h, if_neg h]
      by_cases h2 : pc.getD (i - 1) 0 = q
      · rw [if_pos h2, if_pos h2]
        exact ⟨[], rfl, Nat.zero_le _⟩
      · rw [if_neg h2, if_neg h2]
        obtain ⟨pre, e, l⟩ := upw_last ow pc q f (par ow i)
        exact ⟨i :: pre, by rw [e]; rfl, Nat.succ_le_succ l⟩
theorem wrt_fit {ow : List Nat} (low : Low ow) (pc : List Nat) (q : Nat) : ∀ f i : Nat, i ≤ f → wrt ow pc q f i ≤ i ∧ (wrt ow pc q f i ≠ 0 → pc.getD (wrt ow pc q f i - 1) 0 = q)
  | 0, i, h => ⟨Nat.le_refl _, fun z => absurd (show i = 0 by omega) z⟩
  | f + 1, i, h => by
    unfold wrt
    by_cases h1 : i = 0
    · rw [if_pos h1]
      exact ⟨Nat.le_refl _, fun z => absurd h1 z⟩
    · rw [if_neg h1]
      by_cases h2 : pc.getD (i - 1) 0 = q
      · rw [if_pos h2]
        exact ⟨Nat.le_refl _, fun _ => h2⟩
      · rw [if_neg h2]
        have := par_lt low (i := i) (by omega)
        obtain ⟨a, b⟩ := wrt_fit low pc q f (par ow i) (by omega)
        exact ⟨by omega, b⟩
theorem wrt_more {ow : List Nat} (low : Low ow) (pc : List Nat) (q : Nat) : ∀ f i : Nat, i ≤ f → wrt ow pc q (f + 1) i = wrt ow pc q f i
  | 0, i, h => by
    obtain rfl : i = 0 := by omega
    rfl
  | f + 1, i, h => by
    rw [wrt]
    conv => rhs; rw [wrt]
    by_cases h1 : i = 0
    · rw [if_pos h1, if_pos h1]
    · rw [if_neg h1, if_neg h1]
      by_cases h2 : pc.getD (i - 1) 0 = q
      · rw [if_pos h2, if_pos h2]
      · have := par_lt low (i := i) (by omega)
        rw [if_neg h2, if_neg h2, wrt_more low pc q f _ (by omega)]
/-- the worth of a make at a place -/
def val (ws : List Int) (ow pc : List Nat) (vl : List Int) (q i : Nat) : Int := if wrt ow pc q 64 i = 0 then ws.getD q 0 else vl.getD (wrt ow pc q 64 i - 1) 0
theorem wrt_app {ow pc : List Nat} {i j : Nat} (low : Low ow) (lp : pc.length = ow.length) (q : Nat) : ∀ f k : Nat, k ≤ ow.length → wrt (ow ++ [i]) (pc ++ [j]) q f k = wrt ow pc q f k
  | 0, k, _ => rfl
  | f + 1, k, h => by
    unfold wrt
    by_cases h1 : k = 0
    · rw [if_pos h1, if_pos h1]
    · rw [if_neg h1, if_neg h1, getD_old (by omega)]
      by_cases h2 : pc.getD (k - 1) 0 = q
      · rw [if_pos h2, if_pos h2]
      · rw [if_neg h2, if_neg h2]
        have e : par (ow ++ [i]) k = par ow k := by
          unfold par
          exact getD_old (by omega)
        have := par_lt low (i := k) (by omega)
        rw [e]
        exact wrt_app low lp q f _ (by omega)
theorem wrt_new {ow pc : List Nat} {i j : Nat} (low : Low ow) (lp : pc.length = ow.length) (hi : i ≤ ow.length) (h62 : ow.length ≤ 62) (q : Nat) : wrt (ow ++ [i]) (pc ++ [j]) q 64 (ow.length + 1) = if j = q then ow.length + 1 else wrt ow pc q 64 i := by
  rw [wrt, if_neg (by omega), Nat.add_sub_cancel, ← lp, getD_new, lp]
  by_cases h : j = q
  · rw [if_pos h, if_pos h]
  · rw [if_neg h, if_neg h]
    have e : par (ow ++ [i]) (ow.length + 1) = i := by
      unfold par
      rw [Nat.add_sub_cancel]
      exact getD_new
    rw [e, wrt_app low lp q _ _ hi, wrt_more low pc q 63 i (by omega)]
theorem val_app {ws : List Int} {ow pc : List Nat} {vl : List Int} {i j : Nat} {x : Int} (low : Low ow) (lp : pc.length = ow.length) (lv : vl.length = ow.length) (h62 : ow.length ≤ 62) (q k : Nat) (hk : k ≤ ow.length) : val ws (ow ++ [i]) (pc ++ [j]) (vl ++ [x]) q k = val ws ow pc vl q k := by
  unfold val
  rw [wrt_app low lp q 64 k hk]
  obtain ⟨a, _⟩ := wrt_fit low pc q 64 k (by omega)
  by_cases z : wrt ow pc q 64 k = 0
  · rw [if_pos z, if_pos z]
  · rw [if_neg z, if_neg z]
    exact getD_old (by omega)
theorem val_new {ws : List Int} {ow pc : List Nat} {vl : List Int} {i j : Nat} {x : Int} (low : Low ow) (lp : pc.length = ow.length) (lv : vl.length = ow.length) (h62 : ow.length ≤ 62) (hi : i ≤ ow.length) (q : Nat) : val ws (ow ++ [i]) (pc ++ [j]) (vl ++ [x]) q (ow.length + 1) = if j = q then x else val ws ow pc vl q i := by
  unfold val
  rw [wrt_new low lp hi h62]
  by_cases h : j = q
  · rw [if_pos h, if_neg (by omega), if_pos h, Nat.add_sub_cancel, ← lv]
    exact getD_new
  · rw [if_neg h, if_neg h]
    obtain ⟨a, _⟩ := wrt_fit low pc q 64 i (by omega)
    by_cases z : wrt ow pc q 64 i = 0
    · rw [if_pos z, if_pos z]
    · rw [if_neg z, if_neg z]
      exact getD_old (by omega)
/-- the writes of a row: just those that a kept make needs -/
theorem wrt_none (q f : Nat) : wrt [] [] q f 0 = 0 := by
  cases f with
  | zero => rfl
  | succ f =>
    unfold wrt
    rw [if_pos rfl]
section
variable {P : Program} {w : World} {K : PySem.W.Frag} {mg : Str → Option Value} {base : Heap} {C CL : Addr}
def spWorth : Sp := fun vs H Q _ => ∃ n : Int, vs = [.int n] ∧ -big30 ≤ n ∧ n ≤ big30 ∧ Q (.bl true) H
theorem ok_worth (T : Txt K mg) (c_is_whole : C8.Cal P w K mg base 1 "is_whole" spWhI []) (D : DefAt K mg "is_worth" s_is_worth ["thing"]) : C8.Cal P w K mg base 2 "is_worth" spWorth [] := by
  obtain ⟨f, fd, F, m, b⟩ := D.ex
  refine ⟨f, fd, _, [], F.ok sc_is_worth (fun vs H Q E h => ?_) (fun cdv A outer s H vs Q E hr h => ?_), m, F.kp, b, .nil⟩
  · obtain ⟨n, rfl, _⟩ := h
    rfl
  · obtain ⟨n, rfl, h1, h2, q⟩ := h
    refine ⟨_, (pss_one (ps_ret (C8.pe_c c_is_whole hr (by decide) (by rfl) (pa_cons (pv 0) (pa_cons (pe_un un_neg (pe_gi rfl T.g_MOST_WORTH)) (pa_cons (pe_gi rfl T.g_MOST_WORTH) pa_nil)))))), ?_⟩
    exact ⟨_, rfl, _, rfl, n, -big30, big30, rfl, h1, h2, q⟩
theorem yesI {σ : L2.St} {H : Hp} {A B : Hp → Prop} (h : A H) : tYes σ H (fun b H3 => if b = true then A H3 else B H3) := by
  show if true = true then A H else B H
  rw [if_pos rfl]
  exact h
def spWorths : Sp := fun vs H Q _ => ∃ (a : Addr) (ws : List Int), vs = [.ref a] ∧ (H a = some (.lst (ws.map V.int)) ∨ H a = some (.tup (ws.map V.int))) ∧ 1 ≤ ws.length ∧ ws.length ≤ 16 ∧ (∀ x, x ∈ ws → -big30 ≤ x ∧ x ≤ big30) ∧ ∀ H', Same H H' → Q (.bl true) H'
theorem ok_worths (T : Txt K mg) (c_is_worth : C8.Cal P w K mg base 2 "is_worth" spWorth []) (D : DefAt K mg "is_worths" s_is_worths ["thing"]) : C8.Cal P w K mg base 3 "is_worths" spWorths [] := by
  obtain ⟨f, fd, F, m, b⟩ := D.ex
  refine ⟨f, fd, _, [], F.ok sc_is_worths (fun vs H Q E h => ?_) (fun cdv A outer s H vs Q E hr h => ?_), m, F.kp, b, .nil⟩
  · obtain ⟨a, ws, rfl, _⟩ := h
    rfl
  · obtain ⟨a, ws, rfl, ha, h1, h2, hw, q⟩ := h
    have hlen : (ws.map V.int).length = ws.length := List.length_map _
    rcases ha with ha | ha
    · refine ⟨_, (pss_cons (ps_if (PW.pt (pw_or (pt_not (pt_val (pe_callB call_isiT (by rfl) T.b_isinstance boot_isinstance_ (pa_cons (pv 0) (pa_cons (pe_tup (pa_cons (pe_bltn (v := .ty "list") (by rfl) T.t_list boot_list_ rfl) (pa_cons (pe_bltn (v := .ty "tuple") (by rfl) T.t_tuple boot_tuple_ rfl) pa_nil))) pa_nil))))) (pw_or1 (pt_not (pt_chain op_le op_le pe_int (pe_callB call_len (by rfl) T.b_len boot_len_ (pa_cons (pv 0) pa_nil)) (pe_gi rfl T.g_MOST_PLACES))))))
          (pss_one (ps_ret pe_bl)) pss_nil)
      (pss_one (ps_ret (pe_callB (cr_all rfl) (by rfl) T.b_all boot_all_ (pa_cons (pe_lc (own := [("worth", 1)]) (g := gName 1) (tt := tYes) rfl sc_is_worths.nd (pi_list (pv 0)) (blkOk_by (own := [("worth", 1)]) (N := ["thing", "worth"]) (sc := defScope s_is_worths) (by decide +kernel)) (fun _ _ _ _ _ => pg_name (i := 1) sc_is_worths.nd rfl (Or.inl rfl)) (fun _ _ _ _ _ => pts_nil) (fun _ _ _ _ _ => (C8.pe_c c_is_worth hr (by decide) (by rfl) (pa_cons (pv 1) pa_nil)))) pa_nil))))), ?_⟩
      refine ⟨_, rfl, (by show 2 ≤ sizeLine; decide), fun p hp => ?_⟩
      have sm := same_new (o := .tup [.ty "list", .ty "tuple"]) hp
      have hp1 : (upd H p (.tup [.ty "list", .ty "tuple"])) p = some (.tup [.ty "list", .ty "tuple"]) := upd_same
      generalize upd H p (.tup [.ty "list", .ty "tuple"]) = H1 at *
      have a1 := sm _ _ ha
      refine ⟨_, p, _, _, _, true, rfl, hp1, .cons (.ty _) (.cons (.ty _) .nil), tyL (SqL.of a1), kSeq (.list []), _, rfl, iteF ?_⟩
      refine ⟨_, rfl, .ref a, _, rfl, .inl ⟨_, SqL.of a1, rfl⟩, _, _, rfl, rfl, _, rfl, ?_⟩
      rw [hlen, if_pos (decide_eq_true (by omega : (1 : Int) ≤ (ws.length : Nat)))]
      refine ⟨_, _, rfl, rfl, _, rfl, ?_⟩
      rw [show decide (((ws.length : Nat) : Int) ≤ 16) = true from decide_eq_true (by omega)]
      refine iteF ?_
      refine ⟨_, rfl, a, rfl, ⟨_, SqL.of a1⟩, fun D hD => ?_⟩
      refine lc_it (walk_list (xs := ws.map V.int)) (fun i H' => Same H1 H' ∧ H' D = some (.lst (((ws.take i).map fun _ => true).map V.bl))) ⟨same_new hD, upd_same⟩ (fun i H' _ hP => SqL.of (hP.1 _ _ a1)) (fun i x H2 H3 hi hP hY => ?_) (fun H2 hP => ?_)
      · obtain ⟨s2, d2⟩ := hP
        obtain ⟨rfl, hx⟩ := hY
        rw [List.getElem?_map] at hx
        obtain ⟨n, hn, rfl⟩ : ∃ n, ws[i]? = some n ∧ x = .int n := by
          cases z : ws[i]? with
          | none =>
            rw [z] at hx
            cases hx
          | some n =>
            rw [z] at hx
            exact ⟨n, rfl, (Option.some.inj hx).symm⟩
        obtain ⟨b1, b2⟩ := hw n (List.mem_of_getElem? hn)
        refine ⟨rfl, yesI ?_⟩
        refine ⟨_, rfl, n, rfl, b1, b2, _, d2, ?_, fun c u z => ?_, ?_⟩
        · rw [List.length_map, List.length_map, List.length_take]
          exact small1000 (by omega)
        · rw [upd_ne (ne_of_none z hD)]
          exact s2 _ _ z
        · rw [upd_same, List.take_add_one, hn]
          simp
      · obtain ⟨s2, d2⟩ := hP
        rw [hlen, List.take_length] at d2
        refine ⟨D, ws.map fun _ => true, rfl, SqL.of d2, ?_⟩
        rw [show (ws.map fun _ => true).all id = true from by simp]
        exact q H2 (sm.trans s2)
    · refine ⟨_, (pss_cons (ps_if (PW.pt (pw_or (pt_not (pt_val (pe_callB call_isiT (by rfl) T.b_isinstance boot_isinstance_ (pa_cons (pv 0) (pa_cons (pe_tup (pa_cons (pe_bltn (v := .ty "list") (by rfl) T.t_list boot_list_ rfl) (pa_cons (pe_bltn (v := .ty "tuple") (by rfl) T.t_tuple boot_tuple_ rfl) pa_nil))) pa_nil))))) (pw_or1 (pt_not (pt_chain op_le op_le pe_int (pe_callB call_len (by rfl) T.b_len boot_len_ (pa_cons (pv 0) pa_nil)) (pe_gi rfl T.g_MOST_PLACES))))))
          (pss_one (ps_ret pe_bl)) pss_nil)
      (pss_one (ps_ret (pe_callB (cr_all rfl) (by rfl) T.b_all boot_all_ (pa_cons (pe_lc (own := [("worth", 1)]) (g := gName 1) (tt := tYes) rfl sc_is_worths.nd (pi_tup (pv 0)) (blkOk_by (own := [("worth", 1)]) (N := ["thing", "worth"]) (sc := defScope s_is_worths) (by decide +kernel)) (fun _ _ _ _ _ => pg_name (i := 1) sc_is_worths.nd rfl (Or.inl rfl)) (fun _ _ _ _ _ => pts_nil) (fun _ _ _ _ _ => (C8.pe_c c_is_worth hr (by decide) (by rfl) (pa_cons (pv 1) pa_nil)))) pa_nil))))), ?_⟩
      refine ⟨_, rfl, (by show 2 ≤ sizeLine; decide), fun p hp => ?_⟩
      have sm := same_new (o := .tup [.ty "list", .ty "tuple"]) hp
      have hp1 : (upd H p (.tup [.ty "list", .ty "tuple"])) p = some (.tup [.ty "list", .ty "tuple"]) := upd_same
      generalize upd H p (.tup [.ty "list", .ty "tuple"]) = H1 at *
      have a1 := sm _ _ ha
      refine ⟨_, p, _, _, _, true, rfl, hp1, .cons (.ty _) (.cons (.ty _) .nil), tyT (SqT.of a1), kSeq (.tuple []), _, rfl, iteF ?_⟩
      refine ⟨_, rfl, .ref a, _, rfl, .inr ⟨_, SqT.of a1, rfl⟩, _, _, rfl, rfl, _, rfl, ?_⟩
      rw [hlen, if_pos (decide_eq_true (by omega : (1 : Int) ≤ (ws.length : Nat)))]
      refine ⟨_, _, rfl, rfl, _, rfl, ?_⟩
      rw [show decide (((ws.length : Nat) : Int) ≤ 16) = true from decide_eq_true (by omega)]
      refine iteF ?_
      refine ⟨_, rfl, a, rfl, ⟨_, SqT.of a1⟩, fun D hD => ?_⟩
      refine lc_it (walk_tup (xs := ws.map V.int)) (fun i H' => Same H1 H' ∧ H' D = some (.lst (((ws.take i).map fun _ => true).map V.bl))) ⟨same_new hD, upd_same⟩ (fun i H' _ hP => SqT.of (hP.1 _ _ a1)) (fun i x H2 H3 hi hP hY => ?_) (fun H2 hP => ?_)
      · obtain ⟨s2, d2⟩ := hP
        obtain ⟨rfl, hx⟩ := hY
        rw [List.getElem?_map] at hx
        obtain ⟨n, hn, rfl⟩ : ∃ n, ws[i]? = some n ∧ x = .int n := by
          cases z : ws[i]? with
          | none =>
            rw [z] at hx
            cases hx
          | some n =>
            rw [z] at hx
            exact ⟨n, rfl, (Option.some.inj hx).symm⟩
        obtain ⟨b1, b2⟩ := hw n (List.mem_of_getElem? hn)
        refine ⟨rfl, yesI ?_⟩
        refine ⟨_, rfl, n, rfl, b1, b2, _, d2, ?_, fun c u z => ?_, ?_⟩
        · rw [List.length_map, List.length_map, List.length_take]
          exact small1000 (by omega)
        · rw [upd_ne (ne_of_none z hD)]
          exact s2 _ _ z
        · rw [upd_same, List.take_add_one, hn]
          simp
      · obtain ⟨s2, d2⟩ := hP
        rw [hlen, List.take_length] at d2
        refine ⟨D, ws.map fun _ => true, rfl, SqL.of d2, ?_⟩
        rw [show (ws.map fun _ => true).all id = true from by simp]
        exact q H2 (sm.trans s2)
end
end K46
set_option maxHeartbeats 1000000
namespace K46
open PySem PySem.Spec PyProof.Rows L2 Gd
open C8 (clsBody Met pe_mt pe_mt0)
structure ChX (H : Hp) (xs : List V) (cs : List (Nat × Int)) : Prop where
  len : xs.length = cs.length
  at_ : ∀ (i : Nat) (c : Nat × Int), cs[i]? = some c → ∃ t, xs[i]? = some (.ref t) ∧ H t = some (.tup [num c.1, .int c.2])
def KT (H H' : Hp) : Prop := ∀ (c : Addr) (ys : List V), H c = some (.tup ys) → H' c = some (.tup ys)
theorem KT.of {H H' : Hp} (s : Same H H') : KT H H' := fun c _ z => s c _ z
theorem ChX.kp {H H' : Hp} {xs : List V} {cs : List (Nat × Int)} (r : ChX H xs cs) (k : KT H H') : ChX H' xs cs := ⟨r.len, fun i c e => by
  obtain ⟨t, t1, t2⟩ := r.at_ i c e
  exact ⟨t, t1, k _ _ t2⟩⟩
theorem ChX.get {H : Hp} {xs : List V} {cs : List (Nat × Int)} (r : ChX H xs cs) {i : Nat} {x : V} (e : xs[i]? = some x) : ∃ c t, cs[i]? = some c ∧ x = .ref t ∧ H t = some (.tup [num c.1, .int c.2]) := by
  have hl : i < xs.length := by
    by_cases z : i < xs.length
    · exact z
    · rw [List.getElem?_eq_none (by omega)] at e
      cases e
  have hc : i < cs.length := by rw [← r.len]; exact hl
  obtain ⟨t, t1, t2⟩ := r.at_ i _ (List.getElem?_eq_getElem hc)
  rw [e] at t1
  exact ⟨_, t, List.getElem?_eq_getElem hc, Option.some.inj t1, t2⟩
/-- changes of a row of n places -/
def ChOk (cs : List (Nat × Int)) (n : Nat) : Prop := ∀ c, c ∈ cs → c.1 < n ∧ -big30 ≤ c.2 ∧ c.2 ≤ big30
/-- what the methods of Rows ask of a row at o: its own fields but those of its way -/
structure RowB (N : Addr → Prop) (H : Hp) (o C CL : Addr) (n : Nat) (ow pc ks : List Nat) (st : Int) (fs : List (Str × V)) : Prop where
  ex : ∃ (dx t p k : Addr) (Nt : Addr → Prop), H o = some (.ins C dx fs) ∧ fs.lookup ("_row_size" : Str) = some (num n) ∧ fs.lookup ("_row_tree" : Str) = some (.ref t) ∧ fs.lookup ("_row_places" : Str) = some (.ref p) ∧
    fs.lookup ("_row_kept" : Str) = some (.ref k) ∧ fs.lookup ("_row_steps" : Str) = some (.int st) ∧ (∀ f, f ∉ rfields → fs.lookup f = none) ∧ fs.length < 100 ∧ Lw CL Nt H t ow ∧ H p = some (.lst (.non :: pc.map num)) ∧ H k = some (.lst (ks.map num)) ∧
    N o ∧ N t ∧ N p ∧ N k ∧ (∀ c, Nt c → N c) ∧ ¬ Nt o ∧ ¬ Nt t ∧ ¬ Nt p ∧ ¬ Nt k ∧ p ≠ k ∧ o ≠ t
  lp : pc.length = ow.length
  sz : 1 ≤ n ∧ n ≤ 16
  pl : ∀ q, q ∈ pc → q < n
  kl : ∀ i, i ∈ ks → i ≤ ow.length
  kr : ks.Pairwise (· < ·)
section
variable {N : Addr → Prop} {H H' : Hp} {o C CL : Addr} {n : Nat} {ow pc ks : List Nat} {st : Int} {fs : List (Str × V)}
theorem RowB.kp (r : RowB N H o C CL n ow pc ks st fs) (k : ∀ c u, N c → H c = some u → H' c = some u) : RowB N H' o C CL n ow pc ks st fs := by
  obtain ⟨dx, t, p, kk, Nt, e1, l1, l2, l3, l4, l5, nl, lf, lw, e2, e3, No, Nt', Np, Nk, sub, x1, x2, x3, x4, x6, x7⟩ := r.ex
  exact ⟨⟨dx, t, p, kk, Nt, k _ _ No e1, l1, l2, l3, l4, l5, nl, lf, lw.kp (fun c u h z => k c u (h.elim (sub c) fun e => e ▸ Nt') z), k _ _ Np e2, k _ _ Nk e3, No, Nt', Np, Nk, sub, x1, x2, x3, x4, x6, x7⟩, r.lp, r.sz, r.pl, r.kl, r.kr⟩
theorem RowB.same (r : RowB N H o C CL n ow pc ks st fs) (s : Same H H') : RowB N H' o C CL n ow pc ks st fs := r.kp fun c u _ z => s c u z
theorem RowB.ins (r : RowB N H o C CL n ow pc ks st fs) : ∃ dx, H o = some (.ins C dx fs) ∧ (∀ f, f ∉ rfields → fs.lookup f = none) := by
  obtain ⟨dx, t, p, kk, Nt, e1, l1, l2, l3, l4, l5, nl, _⟩ := r.ex
  exact ⟨dx, e1, nl⟩
theorem RowB.own (r : RowB N H o C CL n ow pc ks st fs) : N o := by
  obtain ⟨_, _, _, _, _, _, _, _, _, _, _, _, _, _, _, _, No, _⟩ := r.ex
  exact No
theorem RowB.few (r : RowB N H o C CL n ow pc ks st fs) : fs.length < 100 := by
  obtain ⟨dx, t, p, kk, Nt, e1, l1, l2, l3, l4, l5, nl, lf, _⟩ := r.ex
  exact lf
theorem RowB.low (r : RowB N H o C CL n ow pc ks st fs) : Low ow ∧ ow.length ≤ 63 := by
  obtain ⟨dx, t, p, kk, Nt, e1, l1, l2, l3, l4, l5, nl, lf, lw, _⟩ := r.ex
  exact ⟨lw.tr.low, lw.tr.few⟩
theorem RowB.cut (r : RowB N H o C CL n ow pc ks st fs) : RowB (fun c => N c ∧ H c ≠ none) H o C CL n ow pc ks st fs := by
  obtain ⟨dx, t, p, kk, Nt, e1, l1, l2, l3, l4, l5, nl, lf, lw, e2, e3, No, Nt', Np, Nk, sub, x1, x2, x3, x4, x6, x7⟩ := r.ex
  have et : H t ≠ none := by
    obtain ⟨dx, o, d, n, fs, e1, _⟩ := lw.tr.ex
    rw [e1]
    simp
  exact ⟨⟨dx, t, p, kk, _, e1, l1, l2, l3, l4, l5, nl, lf, lw.cut, e2, e3, ⟨No, by rw [e1]; simp⟩, ⟨Nt', et⟩, ⟨Np, by rw [e2]; simp⟩, ⟨Nk, by rw [e3]; simp⟩, fun c h => ⟨sub c h.1, h.2⟩, fun h => x1 h.1, fun h => x2 h.1, fun h => x3 h.1, fun h => x4 h.1, x6, x7⟩, r.lp, r.sz, r.pl, r.kl, r.kr⟩
theorem RowB.mono {M : Addr → Prop} (r : RowB N H o C CL n ow pc ks st fs) (s : ∀ c, N c → M c) : RowB M H o C CL n ow pc ks st fs := by
  obtain ⟨dx, t, p, kk, Nt, e1, l1, l2, l3, l4, l5, nl, lf, lw, e2, e3, No, Nt', Np, Nk, sub, x1, x2, x3, x4, x6, x7⟩ := r.ex
  exact ⟨⟨dx, t, p, kk, Nt, e1, l1, l2, l3, l4, l5, nl, lf, lw, e2, e3, s _ No, s _ Nt', s _ Np, s _ Nk, fun c h => s _ (sub c h), x1, x2, x3, x4, x6, x7⟩, r.lp, r.sz, r.pl, r.kl, r.kr⟩
/-- a field of the way is set -/
theorem RowB.put {f : Str} {v : V} {dx : Addr} (r : RowB N H o C CL n ow pc ks st fs) (hf : f ∈ rfields) (hb : f ∉ bfields) (l : fs.length < 99) (e : H' o = some (.ins C dx (putF f v fs))) (k : ∀ c u, c ≠ o → N c → H c = some u → H' c = some u) : RowB N H' o C CL n ow pc ks st (putF f v fs) := by
  obtain ⟨dx0, t, p, kk, Nt, e1, l1, l2, l3, l4, l5, nl, lf, lw, e2, e3, No, Nt', Np, Nk, sub, x1, x2, x3, x4, x6, x7⟩ := r.ex
  have op : o ≠ p := fun z => by rw [z, e2] at e1; cases e1
  have ok : o ≠ kk := fun z => by rw [z, e3] at e1; cases e1
  have ne : ∀ g, g ∈ bfields → f ≠ g := fun g hg z => hb (z ▸ hg)
  refine ⟨⟨dx, t, p, kk, Nt, e, ?_, ?_, ?_, ?_, ?_, fun g hg => ?_, ?_, lw.kp (fun c u h z => k c u (h.elim (fun h e => x1 (e ▸ h)) fun e => e ▸ x7.symm) (h.elim (sub c) fun e => e ▸ Nt') z), k _ _ op.symm Np e2, k _ _ ok.symm Nk e3, No, Nt', Np, Nk, sub, x1, x2, x3, x4, x6, x7⟩, r.lp, r.sz, r.pl, r.kl, r.kr⟩
  · rw [lookup_putF, if_neg (ne _ (by decide)).symm]; exact l1
  · rw [lookup_putF, if_neg (ne _ (by decide)).symm]; exact l2
  · rw [lookup_putF, if_neg (ne _ (by decide)).symm]; exact l3
  · rw [lookup_putF, if_neg (ne _ (by decide)).symm]; exact l4
  · rw [lookup_putF, if_neg (ne _ (by decide)).symm]; exact l5
  · rw [lookup_putF, if_neg (fun z => hg (by rw [z]; exact hf))]; exact nl g hg
  · have := length_putF f v fs
    omega
end
end K46
set_option maxHeartbeats 1000000
namespace K46
open PySem PySem.Spec PyProof.Rows L2 Gd
open C8 (clsBody Met pe_mt pe_mt0)
theorem putF_len {f : Str} {v x : V} : ∀ {fs : List (Str × V)}, fs.lookup f = some x → (putF f v fs).length = fs.length
  | [], h => by cases h
  | (g, y) :: r, h => by
    unfold putF
    by_cases e : g = f
    · rw [if_pos e]
      rfl
    · rw [if_neg e]
      have e2 : (f == g) = false := by simpa using fun z => e z.symm
      rw [List.lookup_cons, e2] at h
      rw [List.length_cons, List.length_cons, putF_len h]
theorem eq_num (a b : Nat) : eqV (num a) (num b) = decide (a = b) := by
  show decide (((a : Nat) : Int) = ((b : Nat) : Int)) = _
  by_cases h : a = b
  · rw [decide_eq_true h, decide_eq_true (by omega)]
  · rw [decide_eq_false h, decide_eq_false (by omega)]
theorem flat_nums : ∀ xs : List Nat, (xs.map num).all flatV = true
  | [] => rfl
  | x :: xs => by
    rw [List.map_cons, List.all_cons, flat_nums xs]
    rfl
theorem in_nums {i : Nat} : ∀ {xs : List Nat}, i ∈ xs → inV (num i) (xs.map num) = true
  | x :: xs, h => by
    unfold inV
    rw [List.map_cons, List.any_cons, eq_num]
    rcases List.mem_cons.mp h with rfl | h
    · rw [decide_eq_true rfl, Bool.true_or]
    · have := in_nums h
      unfold inV at this
      rw [this, Bool.or_true]
section
variable {P : Program} {w : World} {K : PySem.W.Frag} {mg : Str → Option Value} {base : Heap} {C CL : Addr}
def spSize (C CL : Addr) : Sp := fun vs H Q _ => ∃ (N : Addr → Prop) (o : Addr) (n : Nat) (ow pc ks : List Nat) (st : Int) (fs : List (Str × V)), vs = [.ref o] ∧ RowB N H o C CL n ow pc ks st fs ∧ Q (num n) H
theorem ok_size (T : Txt K mg) (OC : RowC K C) (M : MAt K C "size" "Rows.size" s_Rows_size ["self"]) : Met P w K mg base 1 C "size" (spSize C CL) [] := by
  refine M.met OC.cl sc_Rows_size (fun vs H Q E h => ?_) (fun f cdv A outer s H vs Q E hr h => ?_)
  · obtain ⟨N, o, n, ow, pc, ks, st, fs, rfl, _⟩ := h
    rfl
  · obtain ⟨N, o, n, ow, pc, ks, st, fs, rfl, x, q⟩ := h
    obtain ⟨dx, t, p, kk, Nt, e1, l1, l2, l3, l4, l5, nl, lf, _⟩ := x.ex
    refine ⟨_, (pss_one (ps_ret (pe_fld (pv 0) rfl))), ?_⟩
    exact ⟨_, rfl, o, C, dx, fs, num n, rfl, e1, OC.cl, OC.n_size, l1, q⟩
def spRMany (C CL : Addr) : Sp := fun vs H Q _ => ∃ (N : Addr → Prop) (o : Addr) (n : Nat) (ow pc ks : List Nat) (st : Int) (fs : List (Str × V)), vs = [.ref o] ∧ RowB N H o C CL n ow pc ks st fs ∧ Q (num (ow.length + 1)) H
theorem ok_rmany (T : Txt K mg) (OC : RowC K C) (M : MAt K C "many" "Rows.many" s_Rows_many ["self"]) : Met P w K mg base 1 C "many" (spRMany C CL) [] := by
  refine M.met OC.cl sc_Rows_many (fun vs H Q E h => ?_) (fun f cdv A outer s H vs Q E hr h => ?_)
  · obtain ⟨N, o, n, ow, pc, ks, st, fs, rfl, _⟩ := h
    rfl
  · obtain ⟨N, o, n, ow, pc, ks, st, fs, rfl, x, q⟩ := h
    obtain ⟨dx, t, p, kk, Nt, e1, l1, l2, l3, l4, l5, nl, lf, lw, e2, e3, _⟩ := x.ex
    refine ⟨_, (pss_one (ps_ret (pe_callB call_len (by rfl) T.b_len boot_len_ (pa_cons (pe_fld (pv 0) rfl) pa_nil)))), ?_⟩
    refine ⟨_, rfl, o, C, dx, fs, .ref p, rfl, e1, OC.cl, OC.n_places, l3, .ref p, _, rfl, .inl ⟨_, SqL.of e2, rfl⟩, ?_⟩
    have e : (V.non :: pc.map num).length = ow.length + 1 := by rw [List.length_cons, List.length_map, x.lp]
    rw [e]
    exact q
def spNeedMk (C CL : Addr) : Sp := fun vs H Q _ => ∃ (N : Addr → Prop) (o : Addr) (n : Nat) (ow pc ks : List Nat) (st : Int) (fs : List (Str × V)) (i : Nat), vs = [.ref o, num i] ∧ RowB N H o C CL n ow pc ks st fs ∧ i ≤ ow.length ∧ i ∈ ks ∧ Q .non H
theorem ok_needmk (T : Txt K mg) (OC : RowC K C) (c_is_whole : C8.Cal P w K mg base 1 "is_whole" spWhI []) (m_many : Met P w K mg base 1 C "many" (spRMany C CL) []) (M : MAt K C "need_make" "Rows.need_make" s_Rows_need_make ["self", "make"]) : Met P w K mg base 2 C "need_make" (spNeedMk C CL) [] := by
  refine M.met OC.cl sc_Rows_need_make (fun vs H Q E h => ?_) (fun f cdv A outer s H vs Q E hr h => ?_)
  · obtain ⟨N, o, n, ow, pc, ks, st, fs, i, rfl, _⟩ := h
    rfl
  · obtain ⟨N, o, n, ow, pc, ks, st, fs, i, rfl, x, hi, hk, q⟩ := h
    obtain ⟨dx, t, p, kk, Nt, e1, l1, l2, l3, l4, l5, nl, lf, lw, e2, e3, _⟩ := x.ex
    refine ⟨_, (pss_one (ps_if (PW.pt (pw_or (pt_not (pt_val (C8.pe_c c_is_whole hr (by decide) (by rfl) (pa_cons (pv 1) (pa_cons pe_int (pa_cons (pe_op op_sub (pe_mt0 m_many hr (by decide) (pv 0)) pe_int) pa_nil)))))) (pw_or1 (pt_cmpR op_notIn_seq (pv 1) (pe_fld (pv 0) rfl) (by rfl)))))
          (pss_one ps_never) pss_nil)), ?_⟩
    refine ⟨_, rfl, _, rfl, o, dx, fs, rfl, e1, nl _ (by decide), N, o, n, ow, pc, ks, st, fs, rfl, x, _, _, rfl, rfl, ?_⟩
    refine ⟨(i : Nat), 0, (ow.length + 1 : Nat) - 1, rfl, by omega, by omega, _, rfl, iteF ?_⟩
    refine ⟨_, rfl, _, rfl, o, C, dx, fs, .ref kk, rfl, e1, OC.cl, OC.n_kept, l4, kk, _, rfl, .inl (SqL.of e3), rfl, flat_nums ks, ?_⟩
    rw [in_nums hk]
    exact ⟨_, rfl, iteF q⟩
def spNeedPl (C CL : Addr) : Sp := fun vs H Q _ => ∃ (N : Addr → Prop) (o : Addr) (n : Nat) (ow pc ks : List Nat) (st : Int) (fs : List (Str × V)) (j : Nat), vs = [.ref o, num j] ∧ RowB N H o C CL n ow pc ks st fs ∧ j < n ∧ Q .non H
theorem ok_needpl (T : Txt K mg) (OC : RowC K C) (c_is_whole : C8.Cal P w K mg base 1 "is_whole" spWhI []) (m_size : Met P w K mg base 1 C "size" (spSize C CL) []) (M : MAt K C "need_place" "Rows.need_place" s_Rows_need_place ["self", "place"]) : Met P w K mg base 2 C "need_place" (spNeedPl C CL) [] := by
  refine M.met OC.cl sc_Rows_need_place (fun vs H Q E h => ?_) (fun f cdv A outer s H vs Q E hr h => ?_)
  · obtain ⟨N, o, n, ow, pc, ks, st, fs, j, rfl, _⟩ := h
    rfl
  · obtain ⟨N, o, n, ow, pc, ks, st, fs, j, rfl, x, hj, q⟩ := h
    obtain ⟨dx, e1, nl⟩ := x.ins
    refine ⟨_, (pss_one (ps_if (pt_not (pt_val (C8.pe_c c_is_whole hr (by decide) (by rfl) (pa_cons (pv 1) (pa_cons pe_int (pa_cons (pe_op op_sub (pe_mt0 m_size hr (by decide) (pv 0)) pe_int) pa_nil))))))
          (pss_one ps_never) pss_nil)), ?_⟩
    refine ⟨_, rfl, _, rfl, o, dx, fs, rfl, e1, nl _ (by decide), N, o, n, ow, pc, ks, st, fs, rfl, x, _, _, rfl, rfl, ?_⟩
    exact ⟨(j : Nat), 0, (n : Nat) - 1, rfl, by omega, by omega, _, rfl, iteF q⟩
def spNew : Sp := fun vs H Q _ => ∃ (u v : V), vs = [u, v] ∧ Q .non H
theorem ok_new (T : Txt K mg) (OC : RowC K C) (M : MAt K C "need_new" "Rows.need_new" s_Rows_need_new ["self", "make"]) : Met P w K mg base 1 C "need_new" spNew [] := by
  refine M.met OC.cl sc_Rows_need_new (fun vs H Q E h => ?_) (fun f cdv A outer s H vs Q E hr h => ?_)
  · obtain ⟨u, v, rfl, _⟩ := h
    rfl
  · obtain ⟨u, v, rfl, q⟩ := h
    refine ⟨_, pss_one ps_pass, ?_⟩
    exact q
def spRoom (C CL : Addr) : Sp := fun vs H Q _ => ∃ (N : Addr → Prop) (o : Addr) (n : Nat) (ow pc ks : List Nat) (st : Int) (fs : List (Str × V)) (j : Nat), vs = [.ref o, num j] ∧ RowB N H o C CL n ow pc ks st fs ∧ ow.length + 1 + j ≤ 64 ∧ Q .non H
theorem ok_room (T : Txt K mg) (OC : RowC K C) (m_many : Met P w K mg base 1 C "many" (spRMany C CL) []) (M : MAt K C "_row_need_room_for" "Rows._row_need_room_for" s_Rows__row_need_room_for ["self", "more"]) : Met P w K mg base 2 C "_row_need_room_for" (spRoom C CL) [] := by
  refine M.met OC.cl sc_Rows__row_need_room_for (fun vs H Q E h => ?_) (fun f cdv A outer s H vs Q E hr h => ?_)
  · obtain ⟨N, o, n, ow, pc, ks, st, fs, j, rfl, _⟩ := h
    rfl
  · obtain ⟨N, o, n, ow, pc, ks, st, fs, j, rfl, x, hj, q⟩ := h
    obtain ⟨dx, e1, nl⟩ := x.ins
    refine ⟨_, (pss_cons (ps_set (i := 2) sc_Rows__row_need_room_for.nd rfl (Or.inl rfl) (pe_op op_add (pe_mt0 m_many hr (by decide) (pv 0)) (pv 1)))
      (pss_one (ps_if (pt_cmpR op_gt (pv 2) (pe_gi rfl T.g_MOST_MAKES) (nomark _))
          (pss_one ps_never) pss_nil))), ?_⟩
    refine ⟨_, rfl, o, dx, fs, rfl, e1, nl _ (by decide), N, o, n, ow, pc, ks, st, fs, rfl, x, _, rfl, _, _, rfl, rfl, ?_⟩
    refine ⟨_, rfl, _, _, rfl, rfl, _, rfl, ite2 (fun z => ?_) (fun _ => q)⟩
    have := of_decide_eq_true z
    omega
def spAdd (C CL : Addr) : Sp := fun vs H Q _ => ∃ (N : Addr → Prop) (o : Addr) (n : Nat) (ow pc ks : List Nat) (st : Int) (fs : List (Str × V)) (j : Nat), vs = [.ref o, num j] ∧ RowB N H o C CL n ow pc ks st fs ∧ ∀ H', RowB N H' o C CL n ow pc ks (st + (j : Nat)) (putF "_row_steps" (.int (st + (j : Nat))) fs) → (∀ c u, c ≠ o → H c = some u → H' c = some u) → Q .non H'
theorem ok_add (T : Txt K mg) (OC : RowC K C) (M : MAt K C "add_steps" "Rows.add_steps" s_Rows_add_steps ["self", "many"]) : Met P w K mg base 1 C "add_steps" (spAdd C CL) [] := by
  refine M.met OC.cl sc_Rows_add_steps (fun vs H Q E h => ?_) (fun f cdv A outer s H vs Q E hr h => ?_)
  · obtain ⟨N, o, n, ow, pc, ks, st, fs, j, rfl, _⟩ := h
    rfl
  · obtain ⟨N, o, n, ow, pc, ks, st, fs, j, rfl, x, q⟩ := h
    obtain ⟨dx, t, p, kk, Nt, e1, l1, l2, l3, l4, l5, nl, lf, lw, e2, e3, No, Nt', Np, Nk, sub, x1, x2, x3, x4, x6, x7⟩ := x.ex
    refine ⟨_, (pss_one (ps_fldaug (pv 0) (pv 1) in_add)), ?_⟩
    refine ⟨_, rfl, o, C, dx, fs, .int st, rfl, e1, OC.cl, OC.n_steps, l5, _, rfl, _, _, rfl, rfl, dx, fs, e1, by omega, ?_⟩
    have op : o ≠ p := fun z => by rw [z, e2] at e1; cases e1
    have ok : o ≠ kk := fun z => by rw [z, e3] at e1; cases e1
    have ka : ∀ c u, c ≠ o → H c = some u → (upd H o (.ins C dx (putF "_row_steps" (.int (st + (j : Nat))) fs))) c = some u := fun c u hc z => by
      rw [upd_ne hc]
      exact z
    have hlen := putF_len (v := .int (st + (j : Nat))) l5
    refine q _ ⟨⟨dx, t, p, kk, Nt, upd_same, ?_, ?_, ?_, ?_, ?_, fun g hg => ?_, by rw [hlen]; exact lf, lw.kp (fun c u h z => ka c u (h.elim (fun h e => x1 (e ▸ h)) fun e => e ▸ x7.symm) z), ka _ _ op.symm e2, ka _ _ ok.symm e3, No, Nt', Np, Nk, sub, x1, x2, x3, x4, x6, x7⟩, x.lp, x.sz, x.pl, x.kl, x.kr⟩ ka
    · rw [lookup_putF, if_neg (by decide)]; exact l1
    · rw [lookup_putF, if_neg (by decide)]; exact l2
    · rw [lookup_putF, if_neg (by decide)]; exact l3
    · rw [lookup_putF, if_neg (by decide)]; exact l4
    · rw [lookup_putF, if_pos rfl]
    · rw [lookup_putF, if_neg (fun z => hg (by rw [z]; decide))]
      exact nl g hg
end
end K46
set_option maxHeartbeats 1000000
namespace K46
open PySem PySem.Spec PyProof.Rows L2 Gd
open C8 (clsBody Met pe_mt pe_mt0)
section
variable {P : Program} {w : World} {K : PySem.W.Frag} {mg : Str → Option Value} {base : Heap} {C CL : Addr}
/-- _row_put: the rest is the store's -/
def spRPut (S : Sp) (C CL : Addr) : Sp := fun vs H Q E => ∃ (N : Addr → Prop) (o : Addr) (n : Nat) (ow pc ks : List Nat) (st : Int) (fs : List (Str × V)) (i j : Nat) (x : Int), vs = [.ref o, num i, num j, .int x] ∧ RowB N H o C CL n ow pc ks st fs ∧ i ≤ ow.length ∧ ow.length < 63 ∧ ks.length ≤ 100 ∧ j < n ∧
  ∀ (H' : Hp) (N' : Addr → Prop), RowB N' H' o C CL n (ow ++ [i]) (pc ++ [j]) (ks ++ [ow.length + 1]) st fs → (∀ c u, ¬ N c → H c = some u → H' c = some u) → (∀ c, N' c → N c ∨ H c = none) → ∀ (Q2 : VK) (E2 : XK), (∀ v H2, Q (num (ow.length + 1)) H2 → Q2 v H2) → S [.ref o, num i, num (ow.length + 1), num j, .int x] H' Q2 E2
theorem ok_rput {S : Sp} {kS : Nat} (T : Txt K mg) (OC : RowC K C) (m_grow : Met P w K mg base 4 CL "grow" (spGrowL CL) []) (m_store : Met P w K mg base 20 C "store" S []) (M : MAt K C "_row_put" "Rows._row_put" s_Rows__row_put ["self", "make", "place", "worth"]) : Met P w K mg base 21 C "_row_put" (spRPut S C CL) [] := by
  refine M.met OC.cl sc_Rows__row_put (fun vs H Q E h => ?_) (fun f cdv A outer s H vs Q E hr h => ?_)
  · obtain ⟨N, o, n, ow, pc, ks, st, fs, i, j, x, rfl, _⟩ := h
    rfl
  · obtain ⟨N, o, n, ow, pc, ks, st, fs, i, j, x, rfl, r, hi, hlt, hks, hj, q⟩ := h
    obtain ⟨dx, t, p, kk, Nt, e1, l1, l2, l3, l4, l5, nl, lf, lw, e2, e3, No, Nt', Np, Nk, sub, x1, x2, x3, x4, x6, x7⟩ := r.ex
    have op : o ≠ p := fun z => by rw [z, e2] at e1; cases e1
    have ok : o ≠ kk := fun z => by rw [z, e3] at e1; cases e1
    obtain ⟨dt, ft, et, nlt⟩ : ∃ dt ft, H t = some (.ins CL dt ft) ∧ ∀ m, m ∉ fields → ft.lookup m = none := by
      obtain ⟨dt, a, b, c, ft, e, _, _, _, nlt, _⟩ := lw.tr.ex
      exact ⟨dt, ft, e, nlt⟩
    refine ⟨_, (pss_cons (ps_set (i := 4) sc_Rows__row_put.nd rfl (Or.inl rfl) (pe_mt m_grow hr (by decide) (pe_fld (pv 0) rfl) (pa_cons (pv 1) pa_nil)))
      (pss_cons (ps_expr (pe_bm PySem.F.plainAttrs_list PySem.F.slot_list_append PySem.F.type_list_append mt_append (pe_fld (pv 0) rfl) (pa_cons (pv 2) pa_nil)))
      (pss_cons (ps_expr (pe_bm PySem.F.plainAttrs_list PySem.F.slot_list_append PySem.F.type_list_append mt_append (pe_fld (pv 0) rfl) (pa_cons (pv 4) pa_nil)))
      (pss_cons (ps_expr (pe_mt m_store hr (by decide) (pv 0) (pa_cons (pv 1) (pa_cons (pv 4) (pa_cons (pv 2) (pa_cons (pv 3) pa_nil))))))
      (pss_one (ps_ret (pv 4))))))), ?_⟩
    refine ⟨_, rfl, o, C, dx, fs, .ref t, rfl, e1, OC.cl, OC.n_tree, l2, t, dt, ft, rfl, et, nlt _ (by decide), _, rfl, t, ow, i, Nt, rfl, lw, hi, hlt, fun H1 Nu lw1 k1 f1 => ?_⟩
    have a1 := k1 _ _ x1 e1
    have a2 := k1 _ _ x3 e2
    have a3 := k1 _ _ x4 e3
    have nu : ∀ c u, ¬ Nt c → H c = some u → ¬ Nu c := fun c u h1 h2 h3 => (f1 c h3).elim h1 fun z => by rw [z] at h2; cases h2
    have y1 := nu _ _ x1 e1
    have y2 := nu _ _ x2 et
    have y3 := nu _ _ x3 e2
    have y4 := nu _ _ x4 e3
    refine ⟨_, rfl, o, C, dx, fs, .ref p, rfl, a1, OC.cl, OC.n_places, l3, .inl ⟨rfl, _, SqL.of a2⟩, _, rfl, p, _, _, rfl, rfl, a2, small1000 (by rw [List.length_cons, List.length_map, r.lp]; omega), ?_⟩
    have k2 : ∀ c u, c ≠ p → H1 c = some u → (upd H1 p (.lst ((.non :: pc.map num) ++ [num j]))) c = some u := fun c u hc z => by
      rw [upd_ne hc]
      exact z
    have b2 : (upd H1 p (.lst ((.non :: pc.map num) ++ [num j]))) p = some (.lst (.non :: (pc ++ [j]).map num)) := by
      rw [upd_same, List.map_append]
      rfl
    generalize upd H1 p (.lst ((.non :: pc.map num) ++ [num j])) = H2 at *
    refine ⟨_, rfl, o, C, dx, fs, .ref kk, rfl, k2 _ _ op a1, OC.cl, OC.n_kept, l4, .inl ⟨rfl, _, SqL.of (k2 _ _ x6.symm a3)⟩, _, rfl, kk, _, _, rfl, rfl, k2 _ _ x6.symm a3, small1000 (by rw [List.length_map]; omega), ?_⟩
    have k3 : ∀ c u, c ≠ kk → H2 c = some u → (upd H2 kk (.lst (ks.map num ++ [num (ow.length + 1)]))) c = some u := fun c u hc z => by
      rw [upd_ne hc]
      exact z
    have b3 : (upd H2 kk (.lst (ks.map num ++ [num (ow.length + 1)]))) kk = some (.lst ((ks ++ [ow.length + 1]).map num)) := by
      rw [upd_same, List.map_append]
      rfl
    generalize upd H2 kk (.lst (ks.map num ++ [num (ow.length + 1)])) = H3 at *
    have c1 := k3 _ _ ok (k2 _ _ op a1)
    have := r.sz
    have := r.lp
    have tp : t ≠ p := fun z => by rw [z, e2] at et; cases et
    have tk : t ≠ kk := fun z => by rw [z, e3] at et; cases et
    refine ⟨_, rfl, o, dx, fs, rfl, c1, nl _ (by decide), _, rfl, _, rfl, _, rfl, _, rfl, q H3 (fun c => N c ∨ Nu c) ⟨⟨dx, t, p, kk, Nu, c1, l1, l2, l3, l4, l5, nl, lf, lw1.kp (fun c u h z => ?_), k3 _ _ x6 b2, b3, .inl No, .inl Nt', .inl Np, .inl Nk, fun c h => .inr h, y1, y2, y3, y4, x6, x7⟩, ?_, r.sz, fun c hc => ?_, fun c hc => ?_, ?_⟩ (fun c u hc z => ?_) (fun c h => ?_) _ _ fun v H2 z => ⟨_, rfl, z⟩⟩
    · have hp : c ≠ p := fun e => h.elim (fun h => y3 (e ▸ h)) fun z => tp (z.symm.trans e)
      have hk : c ≠ kk := fun e => h.elim (fun h => y4 (e ▸ h)) fun z => tk (z.symm.trans e)
      exact k3 _ _ hk (k2 _ _ hp z)
    · rw [List.length_append, List.length_append, r.lp]
      rfl
    · rcases List.mem_append.mp hc with h | h
      · exact r.pl _ h
      · cases List.mem_singleton.mp h
        exact hj
    · rw [List.length_append]
      rcases List.mem_append.mp hc with h | h
      · exact Nat.le_succ_of_le (r.kl _ h)
      · cases List.mem_singleton.mp h
        exact Nat.le_refl _
    · refine List.pairwise_append.mpr ⟨r.kr, List.pairwise_singleton _ _, fun a ha b hb => ?_⟩
      rw [List.mem_singleton.mp hb]
      exact Nat.lt_succ_of_le (r.kl a ha)
    · exact k3 _ _ (fun e => hc (e ▸ Nk)) (k2 _ _ (fun e => hc (e ▸ Np)) (k1 _ _ (fun h => hc (sub c h)) z))
    · exact h.elim .inl fun h => (f1 c h).imp (sub c) id
end
end K46
set_option maxHeartbeats 1000000
namespace K46
open PySem PySem.Spec PyProof.Rows L2 Gd
open C8 (clsBody Met pe_mt pe_mt0)
theorem upw_zero (ow pc : List Nat) (q f : Nat) : upw ow pc q f 0 = [0] := by
  cases f with
  | zero => rfl
  | succ f =>
    unfold upw
    rw [if_pos rfl]
theorem at_pc {pc : List Nat} {i : Nat} (h0 : i ≠ 0) (h1 : i ≤ pc.length) : atI (V.non :: pc.map num) ((i : Nat) : Int) = some (num (pc.getD (i - 1) 0)) := by
  refine atI_nat ?_
  obtain ⟨j, rfl⟩ : ∃ j, i = j + 1 := ⟨i - 1, by omega⟩
  have hj : j < pc.length := by omega
  rw [List.getElem?_cons_succ, List.getElem?_map, List.getElem?_eq_getElem hj, Nat.add_sub_cancel, List.getD_eq_getElem?_getD, List.getElem?_eq_getElem hj]
  rfl
theorem num_eq {a b : Nat} (h : num a = num b) : a = b := by
  have := V.int.inj h
  omega
def plV (pc : List Nat) (i : Nat) : V := if i = 0 then .non else num (pc.getD (i - 1) 0)
theorem at_pl {pc : List Nat} {i : Nat} (h1 : i ≤ pc.length) : atI (V.non :: pc.map num) ((i : Nat) : Int) = some (plV pc i) := by
  unfold plV
  by_cases h0 : i = 0
  · rw [if_pos h0, h0]
    exact atI_nat (j := 0) rfl
  · rw [if_neg h0]
    exact at_pc h0 h1
section
variable {P : Program} {w : World} {K : PySem.W.Frag} {mg : Str → Option Value} {base : Heap} {C CL : Addr}
def spUpw (C CL : Addr) : Sp := fun vs H Q _ => ∃ (N : Addr → Prop) (o : Addr) (n : Nat) (ow pc ks : List Nat) (st : Int) (fs : List (Str × V)) (i j : Nat), vs = [.ref o, num i, num j] ∧ RowB N H o C CL n ow pc ks st fs ∧ i ≤ ow.length ∧
  ∀ (a : Addr) (H' : Hp), H a = none → Same H H' → H' a = some (.lst ((upw ow pc j 64 i).map num)) → Q (.ref a) H'
theorem ok_upw (T : Txt K mg) (OC : RowC K C) (m_own : Met P w K mg base 3 CL "own" (spOwn CL) []) (M : MAt K C "_up_to_writer" "Rows._up_to_writer" s_Rows__up_to_writer ["self", "make", "place"]) : Met P w K mg base 4 C "_up_to_writer" (spUpw C CL) [] := by
  refine M.met OC.cl sc_Rows__up_to_writer (fun vs H Q E h => ?_) (fun f cdv A outer s H vs Q E hr h => ?_)
  · obtain ⟨N, o, n, ow, pc, ks, st, fs, i, j, rfl, _⟩ := h
    rfl
  · obtain ⟨N, o, n, ow, pc, ks, st, fs, i, j, rfl, r, hi, q⟩ := h
    obtain ⟨dx, t, p, kk, Nt, e1, l1, l2, l3, l4, l5, nl, lf, lw, e2, e3, _⟩ := r.ex
    have tr := lw.tr
    have low : Low ow := tr.low
    have h63 := tr.few
    obtain ⟨dt, ft, et, nlt⟩ : ∃ dt ft, H t = some (.ins CL dt ft) ∧ ∀ m, m ∉ fields → ft.lookup m = none := by
      obtain ⟨dt, a, b, c, ft, e, _, _, _, nlt, _⟩ := tr.ex
      exact ⟨dt, ft, e, nlt⟩
    refine ⟨_, (pss_cons (ps_set (i := 3) sc_Rows__up_to_writer.nd rfl (Or.inl rfl) (pe_lst (pa_cons (pv 1) pa_nil)))
      (pss_cons (ps_while PassesOwn.never (PW.pt (pw_and (pt_cmpR op_ne (pe_ix ix_list (pv 3) (pe_un un_neg pe_int) (fun _ _ => rfl)) pe_int (nomark _)) (pw_and1 (pt_cmpR op_ne (pe_ix ix_list (pe_fld (pv 0) rfl) (pe_ix ix_list (pv 3) (pe_un un_neg pe_int) (fun _ _ => rfl)) (fun _ _ => rfl)) (pv 2) (nomark _)))))
          (pss_one (ps_expr (pe_bm PySem.F.plainAttrs_list PySem.F.slot_list_append PySem.F.type_list_append mt_append (pv 3) (pa_cons (pe_mt m_own hr (by decide) (pe_fld (pv 0) rfl) (pa_cons (pe_ix ix_list (pv 3) (pe_un un_neg pe_int) (fun _ _ => rfl)) pa_nil)) pa_nil)))))
      (pss_one (ps_ret (pv 3))))), ?_⟩
    refine ⟨_, rfl, (by show 1 ≤ sizeLine; decide), fun a ha => ?_⟩
    have s2 := same_new (o := .lst [num i]) ha
    have ea : (upd H a (.lst [num i])) a = some (.lst [num i]) := upd_same
    generalize upd H a (.lst [num i]) = H2 at *
    refine ⟨fun k σ H' => ∃ (cur f : Nat) (pre : List Nat), σ = [some (.ref o), some (num i), some (num j), some (.ref a)] ∧ H' a = some (.lst ((pre ++ [cur]).map num)) ∧ cur ≤ ow.length ∧ cur ≤ f ∧ pre.length + f = 64 ∧ Same H H' ∧ pre ++ upw ow pc j f cur = upw ow pc j 64 i ∧ k = cur,
      ⟨_, i, 64, [], rfl, ea, hi, by omega, rfl, s2, rfl, rfl⟩, ?_⟩
    rintro k σ H3 ⟨cur, f0, pre, rfl, ea3, hc, hf, hpre, s3, hd, rfl⟩
    rw [List.map_append] at ea3
    refine ⟨_, rfl, 1, rfl, a, _, _, num k, rfl, rfl, SqL.of ea3, atI_last _ _, rfl, _, rfl, ?_⟩
    have lp := r.lp
    have a1 := s3 _ _ e1
    have a2 := s3 _ _ e2
    by_cases hk0 : k = 0
    · subst hk0
      rw [upw_zero] at hd
      rw [← List.map_append, hd] at ea3
      have : (!decide (num 0 = V.int 0)) = false := by rfl
      rw [this]
      exact iteF ⟨_, rfl, q a H3 ha s3 ea3⟩
    · have : (!decide (num k = V.int 0)) = true := by
        have e0 : decide (num k = V.int 0) = false := decide_eq_false fun z => hk0 (num_eq (b := 0) z)
        rw [e0]
        rfl
      rw [this]
      refine iteT ?_
      refine ⟨_, rfl, o, C, dx, fs, .ref p, rfl, a1, OC.cl, OC.n_places, l3, _, rfl, 1, rfl, a, _, _, num k, rfl, rfl, SqL.of ea3, atI_last _ _, p, _, _, num (pc.getD (k - 1) 0), rfl, rfl, SqL.of a2, at_pc hk0 (by omega), _, rfl, rfl, _, rfl, ?_⟩
      obtain ⟨f0, rfl⟩ : ∃ g, f0 = g + 1 := ⟨f0 - 1, by omega⟩
      by_cases hp : pc.getD (k - 1) 0 = j
      · rw [hp, decide_eq_true rfl]
        rw [upw, if_neg hk0, if_pos hp] at hd
        rw [← List.map_append, hd] at ea3
        exact iteF ⟨_, rfl, q a H3 ha s3 ea3⟩
      · rw [decide_eq_false (fun z => hp (num_eq z))]
        rw [upw, if_neg hk0, if_neg hp] at hd
        have hpl := par_lt low (i := k) (by omega)
        refine iteT ⟨_, fun σ' H'' z => z, ?_⟩
        refine ⟨_, rfl, .inl ⟨rfl, _, SqL.of ea3⟩, _, rfl, o, C, dx, fs, .ref t, rfl, a1, OC.cl, OC.n_tree, l2, t, dt, ft, rfl, s3 _ _ et, nlt _ (by decide), _, rfl, 1, rfl, a, _, _, num k, rfl, rfl, SqL.of ea3, atI_last _ _, t, ow, _, k, rfl, tr.same s3, hc, ?_⟩
        unfold ownV
        rw [if_neg hk0]
        refine ⟨a, _, _, rfl, rfl, ea3, small1000 (by rw [List.length_append, List.length_map]; show pre.length + 1 ≤ 1000; omega), ?_⟩
        refine ⟨par ow k, hpl, par ow k, f0, pre ++ [k], rfl, ?_, by omega, by omega, by rw [List.length_append]; show pre.length + 1 + f0 = 64; omega, fun c u z => ?_, ?_, rfl⟩
        · rw [upd_same, List.map_append, List.map_append]
          rfl
        · rw [upd_ne (ne_of_none z ha)]
          exact s3 _ _ z
        · rw [← hd, List.append_assoc]
          rfl
/-- the makes up to the writer of a place -/
def spMakes (C CL : Addr) : Sp := fun vs H Q _ => ∃ (N : Addr → Prop) (o : Addr) (n : Nat) (ow pc ks : List Nat) (st : Int) (fs : List (Str × V)), vs = [.ref o] ∧ RowB N H o C CL n ow pc ks st fs ∧ ∀ (a : Addr) (H' : Hp), H a = none → H' a = some (.lst (ks.map num)) → Same H H' → Q (.ref a) H'
theorem ok_makes (T : Txt K mg) (OC : RowC K C) (M : MAt K C "makes" "Rows.makes" s_Rows_makes ["self"]) : Met P w K mg base 1 C "makes" (spMakes C CL) [] := by
  refine M.met OC.cl sc_Rows_makes (fun vs H Q E h => ?_) (fun f cdv A outer s H vs Q E hr h => ?_)
  · obtain ⟨N, o, n, ow, pc, ks, st, fs, rfl, _⟩ := h
    rfl
  · obtain ⟨N, o, n, ow, pc, ks, st, fs, rfl, r, q⟩ := h
    obtain ⟨dx, t, p, kk, Nt, e1, l1, l2, l3, l4, l5, nl, lf, lw, e2, e3, _⟩ := r.ex
    refine ⟨_, (pss_one (ps_ret (pe_callTy call_list_of (by rfl) T.t_list boot_list_ (pa_cons (pe_fld (pv 0) rfl) pa_nil)))), ?_⟩
    exact ⟨_, rfl, o, C, dx, fs, .ref kk, rfl, e1, OC.cl, OC.n_kept, l4, kk, _, rfl, .inl (SqL.of e3), fun a ha => q a _ ha upd_same (same_new ha)⟩
def spRTree (C CL : Addr) : Sp := fun vs H Q _ => ∃ (N : Addr → Prop) (o : Addr) (n : Nat) (ow pc ks : List Nat) (st : Int) (fs : List (Str × V)), vs = [.ref o] ∧ RowB N H o C CL n ow pc ks st fs ∧ ∀ (u : Addr) (H' : Hp) (N' : Addr → Prop), H u = none → Lw CL N' H' u ow → (∀ c, N' c → H c = none) → Same H H' → Q (.ref u) H'
theorem ok_rtree (T : Txt K mg) (OC : RowC K C) (m_copied : Met P w K mg base 6 CL "copied" (spCopied CL (Lw CL)) []) (M : MAt K C "tree" "Rows.tree" s_Rows_tree ["self"]) : Met P w K mg base 7 C "tree" (spRTree C CL) [] := by
  refine M.met OC.cl sc_Rows_tree (fun vs H Q E h => ?_) (fun f cdv A outer s H vs Q E hr h => ?_)
  · obtain ⟨N, o, n, ow, pc, ks, st, fs, rfl, _⟩ := h
    rfl
  · obtain ⟨N, o, n, ow, pc, ks, st, fs, rfl, r, q⟩ := h
    obtain ⟨dx, t, p, kk, Nt, e1, l1, l2, l3, l4, l5, nl, lf, lw, e2, e3, _⟩ := r.ex
    obtain ⟨dt, ft, et, nlt⟩ : ∃ dt ft, H t = some (.ins CL dt ft) ∧ ∀ m, m ∉ fields → ft.lookup m = none := by
      obtain ⟨dt, a, b, c, ft, e, _, _, _, nlt, _⟩ := lw.tr.ex
      exact ⟨dt, ft, e, nlt⟩
    refine ⟨_, (pss_one (ps_ret (pe_mt0 m_copied hr (by decide) (pe_fld (pv 0) rfl)))), ?_⟩
    exact ⟨_, rfl, o, C, dx, fs, .ref t, rfl, e1, OC.cl, OC.n_tree, l2, t, dt, ft, rfl, et, nlt _ (by decide), t, ow, rfl, lw.tr, q⟩
def spNeedSt (C CL : Addr) : Sp := fun vs H Q _ => ∃ (N : Addr → Prop) (o : Addr) (n : Nat) (ow pc ks : List Nat) (st : Int) (fs : List (Str × V)) (lo hi : Nat), vs = [.ref o, num lo, num hi] ∧ RowB N H o C CL n ow pc ks st fs ∧ lo < hi ∧ hi ≤ n ∧ Q .non H
theorem ok_needst (T : Txt K mg) (OC : RowC K C) (c_is_whole : C8.Cal P w K mg base 1 "is_whole" spWhI []) (m_size : Met P w K mg base 1 C "size" (spSize C CL) []) (M : MAt K C "need_stretch" "Rows.need_stretch" s_Rows_need_stretch ["self", "low", "high"]) : Met P w K mg base 2 C "need_stretch" (spNeedSt C CL) [] := by
  refine M.met OC.cl sc_Rows_need_stretch (fun vs H Q E h => ?_) (fun f cdv A outer s H vs Q E hr h => ?_)
  · obtain ⟨N, o, n, ow, pc, ks, st, fs, lo, hi, rfl, _⟩ := h
    rfl
  · obtain ⟨N, o, n, ow, pc, ks, st, fs, lo, hi, rfl, x, h1, h2, q⟩ := h
    obtain ⟨dx, e1, nl⟩ := x.ins
    refine ⟨_, (pss_one (ps_if (PW.pt (pw_or (pt_not (pt_val (C8.pe_c c_is_whole hr (by decide) (by rfl) (pa_cons (pv 1) (pa_cons pe_int (pa_cons (pe_op op_sub (pe_mt0 m_size hr (by decide) (pv 0)) pe_int) pa_nil)))))) (pw_or1 (pt_not (pt_val (C8.pe_c c_is_whole hr (by decide) (by rfl) (pa_cons (pv 2) (pa_cons (pe_op op_add (pv 1) pe_int) (pa_cons (pe_mt0 m_size hr (by decide) (pv 0)) pa_nil)))))))))
          (pss_one ps_never) pss_nil)), ?_⟩
    refine ⟨_, rfl, _, rfl, o, dx, fs, rfl, e1, nl _ (by decide), N, o, n, ow, pc, ks, st, fs, rfl, x, _, _, rfl, rfl, ?_⟩
    refine ⟨(lo : Nat), 0, (n : Nat) - 1, rfl, by omega, by omega, _, rfl, iteF ?_⟩
    refine ⟨_, rfl, _, rfl, _, _, rfl, rfl, _, rfl, o, dx, fs, rfl, e1, nl _ (by decide), N, o, n, ow, pc, ks, st, fs, rfl, x, ?_⟩
    exact ⟨(hi : Nat), (lo : Nat) + 1, (n : Nat), rfl, by omega, by omega, _, rfl, iteF q⟩
def spThere (C CL : Addr) : Sp := fun vs H Q _ => ∃ (N : Addr → Prop) (o : Addr) (n : Nat) (ow pc ks : List Nat) (st : Int) (fs : List (Str × V)) (i : Nat), vs = [.ref o, num i] ∧ RowB N H o C CL n ow pc ks st fs ∧ i ≤ ow.length ∧ Q .non H
theorem ok_there (T : Txt K mg) (OC : RowC K C) (c_is_whole : C8.Cal P w K mg base 1 "is_whole" spWhI []) (m_many : Met P w K mg base 1 C "many" (spRMany C CL) []) (M : MAt K C "_row_need_there" "Rows._row_need_there" s_Rows__row_need_there ["self", "make"]) : Met P w K mg base 2 C "_row_need_there" (spThere C CL) [] := by
  refine M.met OC.cl sc_Rows__row_need_there (fun vs H Q E h => ?_) (fun f cdv A outer s H vs Q E hr h => ?_)
  · obtain ⟨N, o, n, ow, pc, ks, st, fs, i, rfl, _⟩ := h
    rfl
  · obtain ⟨N, o, n, ow, pc, ks, st, fs, i, rfl, x, hi, q⟩ := h
    obtain ⟨dx, e1, nl⟩ := x.ins
    refine ⟨_, (pss_one (ps_if (pt_not (pt_val (C8.pe_c c_is_whole hr (by decide) (by rfl) (pa_cons (pv 1) (pa_cons pe_int (pa_cons (pe_op op_sub (pe_mt0 m_many hr (by decide) (pv 0)) pe_int) pa_nil))))))
          (pss_one ps_never) pss_nil)), ?_⟩
    refine ⟨_, rfl, _, rfl, o, dx, fs, rfl, e1, nl _ (by decide), N, o, n, ow, pc, ks, st, fs, rfl, x, _, _, rfl, rfl, ?_⟩
    exact ⟨(i : Nat), 0, ((ow.length + 1 : Nat) : Int) - 1, rfl, by omega, by omega, _, rfl, iteF q⟩
def spWriterR (C CL : Addr) : Sp := fun vs H Q _ => ∃ (N : Addr → Prop) (o : Addr) (n : Nat) (ow pc ks : List Nat) (st : Int) (fs : List (Str × V)) (i j : Nat), vs = [.ref o, num i, num j] ∧ RowB N H o C CL n ow pc ks st fs ∧ i ≤ ow.length ∧ j < n ∧ ∀ H', Same H H' → Q (num (wrt ow pc j 64 i)) H'
theorem ok_writer (T : Txt K mg) (OC : RowC K C) (m__row_need_there : Met P w K mg base 2 C "_row_need_there" (spThere C CL) []) (m_need_place : Met P w K mg base 2 C "need_place" (spNeedPl C CL) []) (m__up_to_writer : Met P w K mg base 4 C "_up_to_writer" (spUpw C CL) []) (M : MAt K C "writer" "Rows.writer" s_Rows_writer ["self", "make", "place"]) : Met P w K mg base 5 C "writer" (spWriterR C CL) [] := by
  refine M.met OC.cl sc_Rows_writer (fun vs H Q E h => ?_) (fun f cdv A outer s H vs Q E hr h => ?_)
  · obtain ⟨N, o, n, ow, pc, ks, st, fs, i, j, rfl, _⟩ := h
    rfl
  · obtain ⟨N, o, n, ow, pc, ks, st, fs, i, j, rfl, r, hi, hj, q⟩ := h
    obtain ⟨dx, e1, nl⟩ := r.ins
    obtain ⟨pre, ew, lw⟩ := upw_last ow pc j 64 i
    refine ⟨_, (pss_cons (ps_expr (pe_mt m__row_need_there hr (by decide) (pv 0) (pa_cons (pv 1) pa_nil)))
      (pss_cons (ps_expr (pe_mt m_need_place hr (by decide) (pv 0) (pa_cons (pv 2) pa_nil)))
      (pss_one (ps_ret (pe_ix ix_list (pe_mt m__up_to_writer hr (by decide) (pv 0) (pa_cons (pv 1) (pa_cons (pv 2) pa_nil))) (pe_un un_neg pe_int) (fun _ _ => rfl)))))), ?_⟩
    refine ⟨_, rfl, o, dx, fs, rfl, e1, nl _ (by decide), _, rfl, N, o, n, ow, pc, ks, st, fs, i, rfl, r, hi, ?_⟩
    refine ⟨_, rfl, o, dx, fs, rfl, e1, nl _ (by decide), _, rfl, N, o, n, ow, pc, ks, st, fs, j, rfl, r, hj, ?_⟩
    refine ⟨_, rfl, o, dx, fs, rfl, e1, nl _ (by decide), _, rfl, _, rfl, N, o, n, ow, pc, ks, st, fs, i, j, rfl, r, hi, fun a H1 ha s1 ea => ?_⟩
    rw [ew, List.map_append] at ea
    exact ⟨1, rfl, a, _, _, num (wrt ow pc j 64 i), rfl, rfl, SqL.of ea, atI_last _ _, q _ s1⟩
def spSteps (C CL : Addr) : Sp := fun vs H Q _ => ∃ (N : Addr → Prop) (o : Addr) (n : Nat) (ow pc ks : List Nat) (st : Int) (fs : List (Str × V)), vs = [.ref o] ∧ RowB N H o C CL n ow pc ks st fs ∧ Q (.int st) H
theorem ok_steps (T : Txt K mg) (OC : RowC K C) (M : MAt K C "steps" "Rows.steps" s_Rows_steps ["self"]) : Met P w K mg base 1 C "steps" (spSteps C CL) [] := by
  refine M.met OC.cl sc_Rows_steps (fun vs H Q E h => ?_) (fun f cdv A outer s H vs Q E hr h => ?_)
  · obtain ⟨N, o, n, ow, pc, ks, st, fs, rfl, _⟩ := h
    rfl
  · obtain ⟨N, o, n, ow, pc, ks, st, fs, rfl, x, q⟩ := h
    obtain ⟨dx, t, p, kk, Nt, e1, l1, l2, l3, l4, l5, nl, lf, _⟩ := x.ex
    refine ⟨_, (pss_one (ps_ret (pe_fld (pv 0) rfl))), ?_⟩
    exact ⟨_, rfl, o, C, dx, fs, .int st, rfl, e1, OC.cl, OC.n_steps, l5, q⟩
end
end K46
set_option maxHeartbeats 1000000
namespace K46
open PySem PySem.Spec PyProof.Rows L2 Gd
open C8 (clsBody Met pe_mt pe_mt0)
theorem line_fst {ow : List Nat} (low : Low ow) : ∀ i : Nat, (line ow i)[0]? = some 0 := by
  intro i
  induction i using Nat.strongRecOn with
  | _ i ih =>
    by_cases z : i = 0
    · rw [z]
      rfl
    · rw [line_step low (by omega)]
      have h := ih _ (par_lt low (i := i) (by omega))
      have hl : 0 < (line ow (par ow i)).length := by
        cases e : line ow (par ow i) with
        | nil => rw [e] at h; cases h
        | cons x xs => exact Nat.succ_pos _
      rw [List.getElem?_append_left hl]
      exact h
theorem line_next {ow : List Nat} (low : Low ow) : ∀ (i k x y : Nat), (line ow i)[k]? = some x → (line ow i)[k + 1]? = some y → 0 < y ∧ par ow y = x := by
  intro i
  induction i using Nat.strongRecOn with
  | _ i ih =>
    intro k x y h1 h2
    by_cases z : i = 0
    · rw [z] at h2
      cases k <;> cases h2
    · have hp := par_lt low (i := i) (by omega)
      rw [line_step low (by omega)] at h1 h2
      by_cases hk : k + 1 < (line ow (par ow i)).length
      · rw [List.getElem?_append_left hk] at h2
        rw [List.getElem?_append_left (by omega)] at h1
        exact ih _ hp k x y h1 h2
      · have hk2 : k + 1 = (line ow (par ow i)).length := by
          by_cases w : k + 1 = (line ow (par ow i)).length
          · exact w
          · rw [List.getElem?_eq_none (by rw [List.length_append]; show _ + 1 ≤ _; omega)] at h2
            cases h2
        rw [hk2, List.getElem?_append_right (Nat.le_refl _), Nat.sub_self] at h2
        cases h2
        obtain ⟨us, e, _⟩ := line_last low (par ow i)
        rw [e, List.length_append] at hk2
        have hk3 : k = us.length := by
          have : k + 1 = us.length + 1 := hk2
          omega
        rw [List.getElem?_append_left (by rw [e, List.length_append]; show k < us.length + 1; omega), e, List.getElem?_append_right (by omega), hk3, Nat.sub_self] at h1
        cases h1
        exact ⟨by omega, rfl⟩
theorem line_end {ow : List Nat} (low : Low ow) {i k x : Nat} (h : (line ow i)[k]? = some x) (e : k + 1 = (line ow i).length) : x = i := by
  obtain ⟨us, e2, _⟩ := line_last low i
  rw [e2, List.length_append] at e
  have e : k = us.length := by
    have : k + 1 = us.length + 1 := e
    omega
  rw [e2, List.getElem?_append_right (by omega), e, Nat.sub_self] at h
  cases h
  rfl
theorem wrt_step {ow : List Nat} (low : Low ow) (pc : List Nat) (q : Nat) {y : Nat} (h0 : 0 < y) (h : y ≤ 64) : wrt ow pc q 64 y = if pc.getD (y - 1) 0 = q then y else wrt ow pc q 64 (par ow y) := by
  have hp := par_lt low h0
  rw [wrt, if_neg (by omega), wrt_more low pc q 63 _ (by omega)]
/-- the writers of all places -/
def wrs (ow pc : List Nat) (n i : Nat) : List Nat := (List.range n).map fun q => wrt ow pc q 64 i
theorem wrs_len (ow pc : List Nat) (n i : Nat) : (wrs ow pc n i).length = n := by
  unfold wrs
  rw [List.length_map, List.length_range]
theorem wrs_zero (ow pc : List Nat) (n : Nat) : wrs ow pc n 0 = List.replicate n 0 := by
  unfold wrs
  apply List.ext_getElem?
  intro j
  rw [List.getElem?_map, List.getElem?_replicate]
  by_cases h : j < n
  · rw [List.getElem?_range h, if_pos h]
    rfl
  · rw [List.getElem?_eq_none (by rw [List.length_range]; omega), if_neg h]
    rfl
theorem wrs_step {ow : List Nat} (low : Low ow) (pc : List Nat) (n : Nat) {y : Nat} (h0 : 0 < y) (h : y ≤ 64) : wrs ow pc n y = (wrs ow pc n (par ow y)).set (pc.getD (y - 1) 0) y := by
  unfold wrs
  apply List.ext_getElem?
  intro j
  rw [List.getElem?_set, List.getElem?_map, List.getElem?_map, List.length_map, List.length_range]
  by_cases hj : j < n
  · rw [List.getElem?_range hj]
    show some (wrt ow pc j 64 y) = _
    rw [wrt_step low pc j h0 h]
    by_cases e : pc.getD (y - 1) 0 = j
    · rw [if_pos e, if_pos e, if_pos (by omega)]
    · rw [if_neg e, if_neg e]
      rfl
  · rw [List.getElem?_eq_none (by rw [List.length_range]; omega)]
    by_cases e : pc.getD (y - 1) 0 = j
    · rw [if_pos e, if_neg (by omega)]
      rfl
    · rw [if_neg e]
      rfl
def freeQ (ow pc ks : List Nat) (i q : Nat) : Bool := ks.all fun k => decide (wrt ow pc q 64 k ≠ wrt ow pc q 64 i)
def freeL (ow pc ks : List Nat) (i n : Nat) : List (Nat × Nat) := ((List.range n).filter (freeQ ow pc ks i)).map fun q => (q, wrt ow pc q 64 i)
/-- a list of pairs -/
structure PrX (H : Hp) (xs : List V) (ps : List (Nat × Nat)) : Prop where
  len : xs.length = ps.length
  at_ : ∀ (i : Nat) (p : Nat × Nat), ps[i]? = some p → ∃ t, xs[i]? = some (.ref t) ∧ H t = some (.tup [num p.1, num p.2])
theorem PrX.snoc {H H' : Hp} {xs : List V} {ps : List (Nat × Nat)} (r : PrX H xs ps) (k : ∀ c ys, H c = some (.tup ys) → H' c = some (.tup ys)) {t : Addr} {p : Nat × Nat} (e : H' t = some (.tup [num p.1, num p.2])) : PrX H' (xs ++ [.ref t]) (ps ++ [p]) := by
  refine ⟨by rw [List.length_append, List.length_append, r.len]; rfl, fun i c h => ?_⟩
  by_cases hi : i < ps.length
  · rw [List.getElem?_append_left hi] at h
    rw [List.getElem?_append_left (by rw [r.len]; exact hi)]
    obtain ⟨u, h1, h2⟩ := r.at_ i c h
    exact ⟨u, h1, k _ _ h2⟩
  · rw [List.getElem?_append_right (by omega)] at h
    rw [List.getElem?_append_right (by rw [r.len]; omega), r.len]
    cases z : i - ps.length with
    | zero =>
      rw [z] at h
      cases h
      exact ⟨t, rfl, e⟩
    | succ j =>
      rw [z] at h
      cases h
theorem snoc_ref {xs : List V} {t : Addr} {P : Addr → Prop} (h : ∀ (j : Nat) (u : Addr), xs[j]? = some (.ref u) → P u) (ht : P t) : ∀ (j : Nat) (u : Addr), (xs ++ [V.ref t])[j]? = some (.ref u) → P u := fun j u e => by
  by_cases hi : j < xs.length
  · rw [List.getElem?_append_left hi] at e
    exact h j u e
  · rw [List.getElem?_append_right (by omega)] at e
    cases z : j - xs.length with
    | zero =>
      rw [z] at e
      cases e
      exact ht
    | succ n =>
      rw [z] at e
      cases e
theorem bl_ne (a b : Nat) : (!decide (num a = num b)) = decide (a ≠ b) := by
  by_cases z : a = b
  · rw [z]
    simp
  · have : num a ≠ num b := fun e => z (num_eq e)
    simp [z, this]
section
variable {P : Program} {w : World} {K : PySem.W.Frag} {mg : Str → Option Value} {base : Heap} {C CL : Addr}
def spLine (C : Addr) : Sp := fun vs H Q _ => ∃ (t : Addr) (ow ds : List Nat) (i : Nat), vs = [.ref t, num i] ∧ Tr H t C ow ds ∧ i ≤ ow.length ∧ ∀ (p : Addr) (H' : Hp), H p = none → Same H H' → H' p = some (.lst ((line ow i).map num)) → Q (.ref p) H'
theorem ok_line (T : Txt K mg) (TC : TreeC K C) (m__need_make : Met P w K mg base 2 C "_need_make" (spNeed C) []) (M : MAt K C "line" "MakeTree.line" s_MakeTree_line ["self", "make"]) :
    Met P w K mg base 3 C "line" (spLine C) [] := by
  refine M.met TC.cl sc_MakeTree_line (fun vs H Q E h => ?_) (fun f cdv A outer s H vs Q E hr h => ?_)
  · obtain ⟨t, ow, ds, i, rfl, _⟩ := h
    rfl
  · obtain ⟨t, ow, ds, i, rfl, tr, hi, q⟩ := h
    obtain ⟨dx, o, d, n, fs, e1, l1, l2, l3, nl, e2, e3, lf⟩ := tr.ex
    refine ⟨_, (pss_cons (ps_expr (pe_mt m__need_make hr (by decide) (pv 0) (pa_cons (pv 1) pa_nil)))
      (pss_cons (ps_set (i := 2) sc_MakeTree_line.nd rfl (Or.inl rfl) (pe_lst (pa_cons (pv 1) pa_nil)))
      (pss_cons (ps_while PassesOwn.never (pt_cmpR op_notN (pe_ix ix_list (pe_fld (pv 0) rfl) (pe_ix ix_list (pv 2) (pe_un un_neg pe_int) (fun _ _ => rfl)) (fun _ _ => rfl)) pe_non (nomark _))
          (pss_one (ps_expr (pe_bm PySem.F.plainAttrs_list PySem.F.slot_list_append PySem.F.type_list_append mt_append (pv 2) (pa_cons (pe_ix ix_list (pe_fld (pv 0) rfl) (pe_ix ix_list (pv 2) (pe_un un_neg pe_int) (fun _ _ => rfl)) (fun _ _ => rfl)) pa_nil)))))
      (pss_one (ps_ret (pe_revL (pv 2))))))), ?_⟩
    refine ⟨_, rfl, t, dx, fs, rfl, e1, nl _ (by decide), _, rfl, t, ow, ds, i, rfl, tr, hi, ?_⟩
    refine ⟨_, rfl, (by show 1 ≤ sizeLine; decide), fun l hl => ?_⟩
    refine ⟨fun m σ H' => Same H H' ∧ ∃ us : List Nat, σ = [some (.ref t), some (num i), some (.ref l)] ∧ H' l = some (.lst ((us ++ [m]).map num)) ∧ line ow m ++ us.reverse = line ow i ∧ us.length + m ≤ i, ⟨i, same_new hl, [], rfl, upd_same, List.append_nil _, by simp⟩, ?_⟩
    rintro m σ H' ⟨sm, us, rfl, hL, hli, hle⟩
    have hlast : atI ((us ++ [m]).map num) (-1) = some (num m) := by
      rw [List.map_append]
      exact atI_last _ _
    have few := tr.few
    refine ⟨_, rfl, t, C, dx, fs, .ref o, rfl, sm _ _ e1, TC.cl, TC.n_owns, l1, _, rfl, _, rfl, l, _, _, _, rfl, rfl, SqL.of hL, hlast, ?_⟩
    by_cases hm : 0 < m
    · refine ⟨o, _, _, _, rfl, rfl, SqL.of (sm _ _ e2), at_own hm (by omega), rfl, _, rfl, iteT ?_⟩
      have hp := par_lt tr.low hm
      refine ⟨fun σ' H'' => ∃ m', m' < m ∧ Same H H'' ∧ ∃ us : List Nat, σ' = [some (.ref t), some (num i), some (.ref l)] ∧ H'' l = some (.lst ((us ++ [m']).map num)) ∧ line ow m' ++ us.reverse = line ow i ∧ us.length + m' ≤ i, fun σ' H'' z => z, ?_⟩
      refine ⟨_, rfl, .inl ⟨rfl, _, SqL.of hL⟩, ?_⟩
      refine ⟨_, rfl, t, C, dx, fs, .ref o, rfl, sm _ _ e1, TC.cl, TC.n_owns, l1, _, rfl, _, rfl, l, _, _, _, rfl, rfl, SqL.of hL, hlast, ?_⟩
      refine ⟨o, _, _, _, rfl, rfl, SqL.of (sm _ _ e2), at_own hm (by omega), ?_⟩
      refine ⟨l, _, _, rfl, rfl, hL, ?_, par ow m, hp, fun c u z => ?_, us ++ [m], rfl, ?_, ?_, ?_⟩
      · rw [List.length_map, List.length_append]
        exact small1000 (by show us.length + 1 ≤ 1000; omega)
      · rw [upd_ne (ne_of_none z hl)]
        exact sm c u z
      · rw [upd_same, List.map_append (f := num) (l₁ := us ++ [m])]
        rfl
      · rw [List.reverse_append, ← hli, line_step tr.low hm, List.append_assoc]
        rfl
      · rw [List.length_append]
        show us.length + 1 + _ ≤ i
        omega
    · have e : m = 0 := by omega
      subst e
      refine ⟨o, _, _, _, rfl, rfl, SqL.of (sm _ _ e2), (atI_nat (j := 0) rfl), rfl, _, rfl, iteF ?_⟩
      refine ⟨_, rfl, l, _, rfl, SqL.of hL, fun p hp => ?_⟩
      refine q p _ ?_ (sm.trans (same_new hp)) ?_
      · cases z : H p with
        | none => rfl
        | some u =>
          have z2 := sm _ _ z
          rw [hp] at z2
          cases z2
      · rw [upd_same, ← List.map_reverse, List.reverse_append, ← hli]
        rfl
def spWrs (C CL : Addr) : Sp := fun vs H Q _ => ∃ (N : Addr → Prop) (o : Addr) (n : Nat) (ow pc ks : List Nat) (st : Int) (fs : List (Str × V)) (i : Nat), vs = [.ref o, num i] ∧ RowB N H o C CL n ow pc ks st fs ∧ i ≤ ow.length ∧
  ∀ (a : Addr) (H' : Hp), H a = none → H' a = some (.lst ((wrs ow pc n i).map num)) → Same H H' → Q (.ref a) H'
theorem ok_wrs (T : Txt K mg) (OC : RowC K C) (m_size : Met P w K mg base 1 C "size" (spSize C CL) []) (m_line : Met P w K mg base 3 CL "line" (spLine CL) []) (M : MAt K C "_row_writers" "Rows._row_writers" s_Rows__row_writers ["self", "make"]) : Met P w K mg base 4 C "_row_writers" (spWrs C CL) [] := by
  refine M.met OC.cl sc_Rows__row_writers (fun vs H Q E h => ?_) (fun f cdv A outer s H vs Q E hr h => ?_)
  · obtain ⟨N, o, n, ow, pc, ks, st, fs, i, rfl, _⟩ := h
    rfl
  · obtain ⟨N, o, n, ow, pc, ks, st, fs, i, rfl, r, hi, q⟩ := h
    refine ⟨_, (pss_cons (ps_set (i := 2) sc_Rows__row_writers.nd rfl (Or.inl rfl) (pe_op op_rep (pe_lst (pa_cons pe_int pa_nil)) (pe_mt0 m_size hr (by decide) (pv 0))))
      (pss_cons (ps_for PassesOwn.never rfl (pi_list (pe_slice sl_list (pe_mt m_line hr (by decide) (pe_fld (pv 0) rfl) (pa_cons (pv 1) pa_nil)) (po_some pe_int) po_none)) (pg_name (i := 3) sc_Rows__row_writers.nd rfl (Or.inl rfl))
          (pss_one (ps_asg (pv 3) (pg_sub (pv 2) (pe_ix ix_list (pe_fld (pv 0) rfl) (pv 3) (fun _ _ => rfl)) set_list))))
      (pss_one (ps_ret (pv 2))))), ?_⟩
    obtain ⟨dx, t, p, kk, Nt, e1, l1, l2, l3, l4, l5, nl, lf, lw, e2, e3, _⟩ := r.ex
    have low := lw.tr.low
    have few := lw.tr.few
    have sz := r.sz
    obtain ⟨dt, ft, et, nlt⟩ : ∃ dt ft, H t = some (.ins CL dt ft) ∧ ∀ m, m ∉ fields → ft.lookup m = none := by
      obtain ⟨dt, a, b, c, ft, e, _, _, _, nlt, _⟩ := lw.tr.ex
      exact ⟨dt, ft, e, nlt⟩
    refine ⟨(by show 1 ≤ sizeLine; decide), fun y hy => ?_⟩
    have s1 := same_new (o := .lst [.int 0]) hy
    have ey : (upd H y (.lst [.int 0])) y = some (.lst [.int 0]) := upd_same
    generalize upd H y (.lst [.int 0]) = H1 at *
    have r1 := r.same s1
    refine ⟨_, rfl, o, dx, fs, rfl, s1 _ _ e1, nl _ (by decide), N, o, n, ow, pc, ks, st, fs, rfl, r1, ?_⟩
    refine ⟨y, _, [V.int 0], rfl, rfl, ey, by omega, by omega, ?_, fun W hW => ?_⟩
    · rw [Int.toNat_natCast]
      show 1 * n ≤ sizeLine
      have := r.sz
      exact Nat.le_trans (show 1 * n ≤ 1000 by omega) (Gd.line_le (by decide))
    rw [Int.toNat_natCast]
    have e0s : (List.replicate n [V.int 0]).flatten = (wrs ow pc n 0).map num := by
      rw [wrs_zero]
      generalize n = n
      induction n with
      | zero => rfl
      | succ n ih =>
        rw [List.replicate_succ, List.replicate_succ, List.flatten_cons, ih]
        rfl
    rw [e0s]
    have hW0 : H W = none := none_of' s1 hW
    have s2 := s1.trans (same_new (o := .lst ((wrs ow pc n 0).map num)) hW)
    have eW : (upd H1 W (.lst ((wrs ow pc n 0).map num))) W = some (.lst ((wrs ow pc n 0).map num)) := upd_same
    generalize upd H1 W (.lst ((wrs ow pc n 0).map num)) = H2 at *
    refine ⟨_, rfl, o, C, dx, fs, .ref t, rfl, s2 _ _ e1, OC.cl, OC.n_tree, l2, t, dt, ft, rfl, s2 _ _ et, nlt _ (by decide), _, rfl, t, ow, _, i, rfl, lw.tr.same s2, hi, fun p2 H3 hp2 s3 ep2 => ⟨_, rfl, p2, _, rfl, SqL.of ep2, fun p3 hp3 => ?_⟩⟩
    rw [show (some (1 : Int)) = some (((1 : Nat) : Int)) from rfl, cut_from]
    have s4 := s3.trans (same_new (o := .lst (((line ow i).map num).drop 1)) hp3)
    have ep3 : (upd H3 p3 (.lst (((line ow i).map num).drop 1))) p3 = some (.lst (((line ow i).map num).drop 1)) := upd_same
    have W3 : W ≠ p3 := fun e => by rw [← e, s3 _ _ eW] at hp3; cases hp3
    generalize upd H3 p3 (.lst (((line ow i).map num).drop 1)) = H4 at *
    have s04 := s2.trans s4
    have eW4 := s4 _ _ eW
    refine ⟨p3, rfl, ⟨_, SqL.of ep3⟩, ?_⟩
    refine for_list (K := K) (a := p3) (xs := ((line ow i).map num).drop 1) (fun k σ H' => ∃ (y3 : Option V) (x : Nat), σ = [some (.ref o), some (num i), some (.ref W), y3] ∧ (line ow i)[k]? = some x ∧ H' W = some (.lst ((wrs ow pc n x).map num)) ∧ (∀ c u, c ≠ W → H4 c = some u → H' c = some u))
      ⟨none, 0, rfl, line_fst low i, eW4, fun c u _ z => z⟩ (fun k σ H' _ hP => ?_) (fun k v σ H5 hkx hP => ?_) (fun σ H5 hP => ?_)
    · obtain ⟨y3, x, rfl, _, _, k5⟩ := hP
      exact SqL.of (k5 _ _ W3.symm ep3)
    · obtain ⟨y3, x, rfl, hx, eW5, k5⟩ := hP
      rw [List.getElem?_drop, List.getElem?_map, Nat.add_comm 1 k] at hkx
      obtain ⟨y, hy, rfl⟩ := Option.map_eq_some_iff.mp hkx
      obtain ⟨y0, hpar⟩ := line_next low i k x y hx hy
      have yi := line_le low i y (List.mem_of_getElem? hy)
      have lp := r.lp
      have oW : o ≠ W := fun e => by rw [← e, e1] at hW0; cases hW0
      have pW : p ≠ W := fun e => by rw [← e, e2] at hW0; cases hW0
      have hq : pc.getD (y - 1) 0 < n := r.pl _ (by
        rw [List.getD_eq_getElem?_getD, List.getElem?_eq_getElem (by omega : y - 1 < pc.length)]
        exact List.getElem_mem _)
      have ew := wrs_step low pc n y0 (by omega : y ≤ 64)
      rw [hpar] at ew
      refine ⟨_, rfl, _, rfl, _, rfl, o, C, dx, fs, .ref p, rfl, k5 _ _ oW (s04 _ _ e1), OC.cl, OC.n_places, l3, _, rfl, p, _, _, _, rfl, rfl, SqL.of (k5 _ _ pW (s04 _ _ e2)), at_pc (by omega) (by omega), W, _, _, pc.getD (y - 1) 0, rfl, rfl, eW5, ?_, ?_⟩
      · unfold ixN
        rw [if_pos (by omega), if_pos (by rw [List.length_map, wrs_len]; omega)]
        rfl
      refine ⟨some (num y), y, rfl, hy, ?_, fun c u hc z => ?_⟩
      · rw [upd_same, ew, List.map_set]
      · rw [upd_ne hc]
        exact k5 _ _ hc z
    · obtain ⟨y3, x, rfl, hx, eW5, k5⟩ := hP
      have hl : 0 < (line ow i).length := by
        cases e : line ow i with
        | nil => rw [e] at hx; cases hx
        | cons x xs => exact Nat.succ_pos _
      obtain rfl := line_end low hx (by rw [List.length_drop, List.length_map]; omega)
      exact ⟨_, rfl, q W H5 hW0 eW5 fun c u z => k5 _ _ (ne_of_none z hW0) (s04 _ _ z)⟩
def spFree (C CL : Addr) : Sp := fun vs H Q _ => ∃ (N : Addr → Prop) (o : Addr) (n : Nat) (ow pc ks : List Nat) (st : Int) (fs : List (Str × V)) (i : Nat), vs = [.ref o, num i] ∧ RowB N H o C CL n ow pc ks st fs ∧ i ≤ ow.length ∧ ks.length ≤ 64 ∧
  ∀ (a : Addr) (H' : Hp) (xs : List V), H a = none → H' a = some (.lst xs) → PrX H' xs (freeL ow pc ks i n) → (∀ (j : Nat) (t : Addr), xs[j]? = some (.ref t) → H t = none) → Same H H' → Q (.ref a) H'
theorem ok_free (T : Txt K mg) (OC : RowC K C) (m__row_writers : Met P w K mg base 4 C "_row_writers" (spWrs C CL) []) (M : MAt K C "_needed_no_more" "Rows._needed_no_more" s_Rows__needed_no_more ["self", "make"]) : Met P w K mg base 5 C "_needed_no_more" (spFree C CL) [] := by
  refine M.met OC.cl sc_Rows__needed_no_more (fun vs H Q E h => ?_) (fun f cdv A outer s H vs Q E hr h => ?_)
  · obtain ⟨N, o, n, ow, pc, ks, st, fs, i, rfl, _⟩ := h
    rfl
  · obtain ⟨N, o, n, ow, pc, ks, st, fs, i, rfl, r, hi, h64, q⟩ := h
    refine ⟨_, (pss_cons (ps_setLc (i := 2) (own := [("other", 6)]) (g := gName 6) (tt := tYes) rfl sc_Rows__needed_no_more.nd rfl rfl (sw_true rfl rfl rfl (by decide +kernel)) (pi_list (pe_fld (pv 0) rfl)) (blkOk_by (own := [("other", 6)]) (N := ["self", "make", "kept", "writes", "place", "writer", "other", "writers"]) (sc := defScope s_Rows__needed_no_more) (by decide +kernel)) (fun _ _ _ _ _ => pg_name (i := 6) sc_Rows__needed_no_more.nd rfl (Or.inl rfl)) (fun _ _ _ _ _ => pts_nil) (fun _ _ _ _ _ => (pe_mt m__row_writers hr (by decide) (pv 0) (pa_cons (pv 6) pa_nil))))
      (pss_cons (ps_set (i := 3) sc_Rows__needed_no_more.nd rfl (Or.inl rfl) (pe_lst pa_nil))
      (pss_cons (ps_for PassesOwn.never rfl (pi_enum (by rfl) T.b_enumerate (pa_cons (pe_mt m__row_writers hr (by decide) (pv 0) (pa_cons (pv 1) pa_nil)) pa_nil)) (pg_tup (by rfl) (pgs_cons (pg_name (i := 4) sc_Rows__needed_no_more.nd rfl (Or.inr rfl)) (pgs_cons (pg_name (i := 5) sc_Rows__needed_no_more.nd rfl (Or.inr rfl)) pgs_nil)))
          (pss_one (ps_if (pt_val (pe_callB (cr_all rfl) (by rfl) T.b_all boot_all_ (pa_cons (pe_lc (own := [("writers", 7)]) (g := gName 7) (tt := tYes) rfl sc_Rows__needed_no_more.nd (pi_list (pv 2)) (blkOk_by (own := [("writers", 7)]) (N := ["self", "make", "kept", "writes", "place", "writer", "other", "writers"]) (sc := defScope s_Rows__needed_no_more) (by decide +kernel)) (fun _ _ _ _ _ => pg_name (i := 7) sc_Rows__needed_no_more.nd rfl (Or.inl rfl)) (fun _ _ _ _ _ => pts_nil) (fun _ _ _ _ _ => (pe_cmpR op_ne (pe_ix (show IxR _ (rIxL K) from ix_list) (pv 7) (pv 4) (fun _ _ => rfl)) (pv 5) (nomark _)))) pa_nil)))
              (pss_one (ps_expr (pe_bm PySem.F.plainAttrs_list PySem.F.slot_list_append PySem.F.type_list_append mt_append (pv 3) (pa_cons (pe_tup (pa_cons (pv 4) (pa_cons (pv 5) pa_nil))) pa_nil)))) pss_nil)))
      (pss_one (ps_ret (pv 3)))))), ?_⟩
    obtain ⟨dx, t, p, kk, Nt, e1, l1, l2, l3, l4, l5, nl, lf, lw, e2, e3, _⟩ := r.ex
    have few := lw.tr.few
    have sz := r.sz
    refine ⟨_, rfl, o, C, dx, fs, .ref kk, rfl, e1, OC.cl, OC.n_kept, l4, kk, rfl, ⟨_, SqL.of e3⟩, fun B hB => ?_⟩
    refine lc_it (walk_list (xs := ks.map num)) (fun k H' => Same H H' ∧ ∃ rs : List Addr, H' B = some (.lst (rs.map V.ref)) ∧ rs.length = k ∧ ∀ (j : Nat) (a : Addr), rs[j]? = some a → a ≠ B ∧ H' a = some (.lst ((wrs ow pc n (ks.getD j 0)).map num))) ⟨same_new hB, [], upd_same, rfl, fun j a e => by cases e⟩ (fun k H' _ hP => SqL.of (hP.1 _ _ e3)) (fun k v H2 H3 hk hP hY => ?_) (fun H2 hP => ?_)
    · obtain ⟨s2, rs, eB, hl, ha⟩ := hP
      obtain ⟨rfl, hki⟩ := hY
      rw [List.getElem?_map] at hki
      obtain ⟨x, hx, rfl⟩ := Option.map_eq_some_iff.mp hki
      refine ⟨rfl, yesI ?_⟩
      have r2 := r.same s2
      obtain ⟨dx2, e21, nl2⟩ := r2.ins
      refine ⟨_, rfl, o, dx2, fs, rfl, e21, nl2 _ (by decide), _, rfl, N, o, n, ow, pc, ks, st, fs, x, rfl, r2, r.kl _ (List.mem_of_getElem? hx), fun a H4 ha4 ea4 s4 => ?_⟩
      have eB4 := s4 _ _ eB
      have aB : a ≠ B := fun e => by rw [e, eB] at ha4; cases ha4
      rw [List.length_map] at hk
      refine ⟨_, eB4, ?_, fun c u z => ?_, rs ++ [a], ?_, by rw [List.length_append, hl]; rfl, fun j b e => ?_⟩
      · rw [List.length_map, hl]
        exact Nat.lt_of_lt_of_le (show k < 1000 by omega) (Gd.line_le (by decide))
      · rw [upd_ne (ne_of_none z hB)]
        exact s4 _ _ (s2 _ _ z)
      · rw [upd_same, List.map_append]
        rfl
      · by_cases hj : j < rs.length
        · rw [List.getElem?_append_left hj] at e
          obtain ⟨g1, g2⟩ := ha j b e
          exact ⟨g1, by rw [upd_ne g1]; exact s4 _ _ g2⟩
        · rw [List.getElem?_append_right (by omega)] at e
          cases z : j - rs.length with
          | zero =>
            rw [z] at e
            cases e
            obtain rfl : j = k := by omega
            refine ⟨aB, ?_⟩
            rw [upd_ne aB, show ks.getD j 0 = x by rw [List.getD_eq_getElem?_getD, hx]; rfl]
            exact ea4
          | succ n =>
            rw [z] at e
            cases e
    obtain ⟨s2, rs, eB, hl, ha⟩ := hP
    rw [List.length_map] at hl
    refine ⟨(by show 0 ≤ sizeLine; decide), fun W hW => ?_⟩
    have s3 := s2.trans (same_new (o := .lst []) hW)
    have eW : (upd H2 W (.lst [])) W = some (.lst []) := upd_same
    have WB : W ≠ B := fun e => by rw [e, eB] at hW; cases hW
    have hW0 : H W = none := none_of' s2 hW
    have eB3 := same_new (o := .lst []) hW _ _ eB
    have ha3 : ∀ (j : Nat) (a : Addr), rs[j]? = some a → a ≠ W ∧ (upd H2 W (.lst [])) a = some (.lst ((wrs ow pc n (ks.getD j 0)).map num)) := fun j a e => by
      obtain ⟨g1, g2⟩ := ha j a e
      exact ⟨fun z => (by rw [z, hW] at g2; cases g2), same_new (o := .lst []) hW _ _ g2⟩
    generalize upd H2 W (.lst []) = H3 at *
    have r3 := r.same s3
    obtain ⟨dx3, e31, nl3⟩ := r3.ins
    refine ⟨_, rfl, o, dx3, fs, rfl, e31, nl3 _ (by decide), _, rfl, N, o, n, ow, pc, ks, st, fs, i, rfl, r3, hi, fun a H4 ha4 ea4 s4 => ?_⟩
    have aW : a ≠ W := fun e => by rw [e, eW] at ha4; cases ha4
    have s04 := s3.trans s4
    refine ⟨a, _, rfl, SqL.of ea4, ?_⟩
    refine for_it (walk_enum (K := K) (a := a) (xs := (wrs ow pc n i).map num)) (fun k σ H' => ∃ (y4 y5 y6 y7 : Option V) (xs : List V), σ = [some (.ref o), some (num i), some (.ref B), some (.ref W), y4, y5, y6, y7] ∧ H' W = some (.lst xs) ∧ PrX H' xs (freeL ow pc ks i k) ∧ (∀ (j : Nat) (t : Addr), xs[j]? = some (.ref t) → H t = none ∧ t ≠ W) ∧ (∀ c u, c ≠ W → H4 c = some u → H' c = some u))
      ⟨none, none, none, none, [], rfl, s4 _ _ eW, ⟨rfl, fun j p e => (by cases e)⟩, fun j t e => (by cases e), fun c u _ z => z⟩ (fun k σ H' _ hP => ?_) (fun k x σ H5 H6 hk hP hY => ?_) (fun σ H5 hP => ?_)
    · obtain ⟨y4, y5, y6, y7, xs, rfl, _, _, _, k5⟩ := hP
      exact SqL.of (k5 _ _ aW ea4)
    · obtain ⟨y4, y5, y6, y7, xs, rfl, eW5, px, nx, k5⟩ := hP
      obtain ⟨Tp, u, v, rfl, hT, rfl, hu, hv⟩ := hY
      rw [List.length_map, wrs_len] at hk
      replace hu : some (V.int (k : Nat)) = some u := hu
      replace hv : ((wrs ow pc n i).map num)[k]? = some v := hv
      cases (Option.some.inj hu)
      have hwk : (wrs ow pc n i)[k]? = some (wrt ow pc k 64 i) := by
        unfold wrs
        rw [List.getElem?_map, List.getElem?_range hk]
        rfl
      rw [List.getElem?_map, hwk] at hv
      cases (show some (num (wrt ow pc k 64 i)) = some v from hv)
      refine ⟨Tp, _, rfl, SqT.of upd_same, rfl, _, _, rfl, _, _, rfl, rfl, ?_⟩
      have s6 := same_new (o := .tup [V.int (k : Nat), num (wrt ow pc k 64 i)]) hT
      generalize upd H5 Tp (.tup [V.int (k : Nat), num (wrt ow pc k 64 i)]) = H6 at *
      have eW6 := s6 _ _ eW5
      have eB6 := s6 _ _ (k5 _ _ WB.symm (s4 _ _ eB3))
      have ha6 : ∀ (j : Nat) (a : Addr), rs[j]? = some a → H6 a = some (.lst ((wrs ow pc n (ks.getD j 0)).map num)) := fun j a e => by
        obtain ⟨g1, g2⟩ := ha3 j a e
        exact s6 _ _ (k5 _ _ g1 (s4 _ _ g2))
      refine ⟨_, rfl, B, rfl, ⟨_, SqL.of eB6⟩, fun D hD => ?_⟩
      refine lc_it (walk_list (xs := rs.map V.ref)) (fun j H' => Same H6 H' ∧ H' D = some (.lst (((ks.take j).map fun x => decide (wrt ow pc k 64 x ≠ wrt ow pc k 64 i)).map V.bl))) ⟨same_new hD, upd_same⟩ (fun j H' _ hP => SqL.of (hP.1 _ _ eB6)) (fun j x H7 H8 hj hP hY => ?_) (fun H7 hP => ?_)
      · obtain ⟨s7, eD⟩ := hP
        obtain ⟨rfl, hjx⟩ := hY
        rw [List.getElem?_map] at hjx
        obtain ⟨a', hra, rfl⟩ := Option.map_eq_some_iff.mp hjx
        rw [List.length_map] at hj
        obtain ⟨x, hx⟩ : ∃ x, ks[j]? = some x := ⟨_, List.getElem?_eq_getElem (by omega)⟩
        have gx : ks.getD j 0 = x := by rw [List.getD_eq_getElem?_getD, hx]; rfl
        have e7 := s7 _ _ (ha6 j a' hra)
        rw [gx] at e7
        have hwx : atI ((wrs ow pc n x).map num) ((k : Nat) : Int) = some (num (wrt ow pc k 64 x)) := by
          refine atI_nat ?_
          unfold wrs
          rw [List.getElem?_map, List.getElem?_map, List.getElem?_range hk]
          rfl
        refine ⟨rfl, yesI ?_⟩
        refine ⟨_, rfl, _, rfl, a', _, _, _, rfl, rfl, SqL.of e7, hwx, _, rfl, rfl, ?_⟩
        refine ⟨_, eD, ?_, fun c u z => ?_, ?_⟩
        · rw [List.length_map, List.length_map, List.length_take]
          exact Nat.lt_of_lt_of_le (show min j ks.length < 1000 by omega) (Gd.line_le (by decide))
        · rw [upd_ne (ne_of_none z hD)]
          exact s7 _ _ z
        · rw [upd_same, List.take_add_one, hx, bl_ne, List.map_append, List.map_append]
          rfl
      · obtain ⟨s7, eD⟩ := hP
        rw [List.length_map, hl, List.take_length] at eD
        refine ⟨D, ks.map fun x => decide (wrt ow pc k 64 x ≠ wrt ow pc k 64 i), rfl, SqL.of eD, _, rfl, ?_⟩
        have ef : (ks.map fun x => decide (wrt ow pc k 64 x ≠ wrt ow pc k 64 i)).all id = freeQ ow pc ks i k := by
          unfold freeQ
          rw [List.all_map]
          rfl
        rw [ef]
        have es : freeL ow pc ks i (k + 1) = freeL ow pc ks i k ++ if freeQ ow pc ks i k = true then [(k, wrt ow pc k 64 i)] else [] := by
          unfold freeL
          rw [List.range_succ, List.filter_append, List.map_append, List.filter_cons]
          cases freeQ ow pc ks i k <;> rfl
        have s17 := s6.trans s7
        have px7 : PrX H7 xs (freeL ow pc ks i k) := ⟨px.len, fun j p e => by
          obtain ⟨t, t1, t2⟩ := px.at_ j p e
          exact ⟨t, t1, s17 _ _ t2⟩⟩
        rw [es]
        refine ite2 (fun z => ?_) (fun z => ?_)
        · rw [z, if_pos rfl]
          have eW7 := s17 _ _ eW5
          have hl7 : xs.length ≤ 64 := by
            have h1 := List.length_filter_le (freeQ ow pc ks i) (List.range k)
            rw [List.length_range] at h1
            have h2 : xs.length = ((List.range k).filter (freeQ ow pc ks i)).length := by
              rw [px.len]
              unfold freeL
              rw [List.length_map]
            omega
          refine ⟨_, rfl, .inl ⟨rfl, _, SqL.of eW7⟩, _, rfl, _, rfl, (by show 2 ≤ sizeLine; decide), fun t ht => ?_⟩
          have s8 := same_new (o := .tup [V.int (k : Nat), num (wrt ow pc k 64 i)]) ht
          have et : (upd H7 t (.tup [V.int (k : Nat), num (wrt ow pc k 64 i)])) t = some (.tup [V.int (k : Nat), num (wrt ow pc k 64 i)]) := upd_same
          have tW : t ≠ W := fun e => by rw [e, eW7] at ht; cases ht
          generalize upd H7 t (.tup [V.int (k : Nat), num (wrt ow pc k 64 i)]) = H8 at *
          have eW8 := s8 _ _ eW7
          have kW : ∀ c u, c ≠ W → H8 c = some u → (upd H8 W (.lst (xs ++ [.ref t]))) c = some u := fun c u hc w => by
            rw [upd_ne hc]
            exact w
          have ht0 : H t = none := by
            cases w : H t with
            | none => rfl
            | some u =>
              rw [s17 _ _ (k5 _ _ tW (s04 _ _ w))] at ht
              cases ht
          refine ⟨W, xs, _, rfl, rfl, eW8, small1000 (by omega), ?_⟩
          refine ⟨_, _, _, _, xs ++ [.ref t], rfl, upd_same, px7.snoc (p := (k, wrt ow pc k 64 i)) (fun c ys w => kW _ _ (fun e => by rw [e, eW7] at w; cases w) (s8 _ _ w)) (kW _ _ tW et), snoc_ref nx ⟨ht0, tW⟩, fun c u hc w => kW _ _ hc (s8 _ _ (s17 _ _ (k5 _ _ hc w)))⟩
        · rw [if_neg z, List.append_nil]
          exact ⟨_, _, _, _, xs, rfl, s17 _ _ eW5, px7, nx, fun c u hc w => s17 _ _ (k5 _ _ hc w)⟩
    · obtain ⟨y4, y5, y6, y7, xs, rfl, eW5, px, nx, k5⟩ := hP
      rw [List.length_map, wrs_len] at px
      exact ⟨_, rfl, q W H5 xs hW0 eW5 px (fun j t e => (nx j t e).1) fun c u z => k5 _ _ (ne_of_none z hW0) (s04 _ _ z)⟩
end
end K46
set_option maxHeartbeats 1000000
namespace K46
open PySem PySem.Spec PyProof.Rows L2 Gd
open C8 (clsBody Met pe_mt pe_mt0)
theorem upd_none' {H H' : Hp} {o l : Addr} (k : ∀ c u, c ≠ o → H c = some u → H' c = some u) (h : l ≠ o) (e : H' l = none) : H l = none := by
  cases z : H l with
  | none => rfl
  | some u => rw [k l u h z] at e; cases e
section
variable {P : Program} {w : World} {K : PySem.W.Frag} {mg : Str → Option Value} {base : Heap} {C CL : Addr}
def spRInit (S : Sp) (C CL : Addr) : Sp := fun vs H Q E => ∃ (o dx a : Addr) (ws : List Int), vs = [.ref o, .ref a] ∧ H o = some (.ins C dx []) ∧ (H a = some (.lst (ws.map V.int)) ∨ H a = some (.tup (ws.map V.int))) ∧ 1 ≤ ws.length ∧ ws.length ≤ 16 ∧ (∀ x, x ∈ ws → -big30 ≤ x ∧ x ≤ big30) ∧
  ∀ (l : Addr) (H' : Hp) (N' : Addr → Prop) (fs : List (Str × V)), RowB N' H' o C CL ws.length [] [] [0] 0 fs → fs.length ≤ 5 → (∀ f, f ∉ bfields → fs.lookup f = none) → H' l = some (.lst (ws.map V.int)) → H l = none → l ≠ o → ¬ N' l → (∀ c u, c ≠ o → H c = some u → H' c = some u) → (∀ c, N' c → (c = o ∨ H c = none) ∧ H' c ≠ none) → ∀ (Q2 : VK) (E2 : XK), (∀ v H2, Q .non H2 → Q2 v H2) → S [.ref o, .ref l] H' Q2 E2
theorem fn_rinit {S : Sp} {f fL : Addr} {fd fdL : FuncData} (T : Txt K mg) (OC : RowC K C) (cL : mg "LeapTree" = some (.ref CL)) (M_LeapTree : Mk K CL fL) (B_LeapTree : Binds K fdL ["self"] []) (G_LeapTree : FnOk P w K mg base CX0 2 fL fdL ["self"] (spInitL CL)) (c_is_worths : C8.Cal P w K mg base 3 "is_worths" spWorths []) (m_begin : Met P w K mg base 3 C "begin" S [])
    (F : Fun K "__init__" "Rows.__init__" s_Rows___init__ f fd) : FnOk P w K mg base CX0 4 f fd ["self", "worths"] (spRInit S C CL) := by
  refine F.ok sc_Rows___init__ (fun vs H Q E h => ?_) (fun cdv A outer s H vs Q E hr h => ?_)
  · obtain ⟨o, dx, a, ws, rfl, _⟩ := h
    rfl
  · obtain ⟨o, dx, a, ws, rfl, e1, hor, h1, h2, hw, q⟩ := h
    refine ⟨_, (pss_cons (ps_if (pt_not (pt_val (C8.pe_c c_is_worths hr (by decide) (by rfl) (pa_cons (pv 1) pa_nil))))
          (pss_one ps_never) pss_nil)
      (pss_cons (ps_fld (pv 0) (pe_callB call_len (by rfl) T.b_len boot_len_ (pa_cons (pv 1) pa_nil)) rfl)
      (pss_cons (ps_fld (pv 0) (pe_make0 M_LeapTree G_LeapTree (hr.mono (by decide)) rfl cL B_LeapTree .nil pass0) rfl)
      (pss_cons (ps_fld (pv 0) (pe_lst (pa_cons pe_non pa_nil)) rfl)
      (pss_cons (ps_fld (pv 0) (pe_lst (pa_cons pe_int pa_nil)) rfl)
      (pss_cons (ps_fld (pv 0) pe_int rfl)
      (pss_one (ps_expr (pe_mt m_begin hr (by decide) (pv 0) (pa_cons (pe_callTy call_list_of (by rfl) T.t_list boot_list_ (pa_cons (pv 1) pa_nil)) pa_nil)))))))))), ?_⟩
    have ao : a ≠ o := fun e => by
      rw [e, e1] at hor
      rcases hor with z | z <;> cases z
    refine ⟨_, rfl, a, ws, rfl, hor, h1, h2, hw, fun H1 s1 => ⟨_, rfl, iteF ?_⟩⟩
    have hlen : ∀ {H' : Hp}, (∀ c u, c ≠ o → H c = some u → H' c = some u) → LenV K (.ref a) H' ws.length := fun {H'} k => by
      rcases hor with e | e
      · exact .inl ⟨_, SqL.of (k _ _ ao e), (List.length_map _).symm⟩
      · exact .inr ⟨_, SqT.of (k _ _ ao e), (List.length_map _).symm⟩
    refine ⟨_, rfl, .ref a, _, rfl, hlen fun c u _ z => s1 c u z, ?_⟩
    refine ⟨_, rfl, o, C, dx, [], rfl, s1 _ _ e1, OC.cl, OC.n_size, by decide, ?_⟩
    have p1 : (putF "_row_size" (num ws.length) ([] : List (Str × V))).length ≤ 1 := length_putF _ _ _
    have k2 : ∀ c u, c ≠ o → H c = some u → (upd H1 o (.ins C dx (putF "_row_size" (num ws.length) []))) c = some u := fun c u hc z => by
      rw [upd_ne hc]
      exact s1 _ _ z
    have e2 : (upd H1 o (.ins C dx (putF "_row_size" (num ws.length) []))) o = some (.ins C dx (putF "_row_size" (num ws.length) [])) := upd_same
    have n12 : ∀ c, (upd H1 o (.ins C dx (putF "_row_size" (num ws.length) []))) c = none → H c = none := fun c z => none_of' s1 (upd_none z)
    change tSeq _ _ _ _ (upd H1 o (.ins C dx (putF "_row_size" (num ws.length) [])))
    generalize upd H1 o (.ins C dx (putF "_row_size" (num ws.length) [])) = H2 at *
    intro t du n1 n2 ne
    refine ⟨t, du, rfl, upd_same, fun H3 Nt tw k3 f3 => ⟨rfl, ?_⟩⟩
    have ot : o ≠ t := ne_of_none e2 n1
    have s3 : Same H2 H3 := fun c u z => k3 c u (ne_of_none z n1) (by rw [upd_ne (ne_of_none z n1), upd_ne (ne_of_none z n2)]; exact z)
    have g3 : ∀ c, Nt c → H2 c = none := fun c hc => upd_none (upd_none (f3 c hc))
    have nt : ¬ Nt t := fun h => by
      have z := f3 t h
      rw [upd_same] at z
      cases z
    refine ⟨_, rfl, o, C, dx, _, rfl, s3 _ _ e2, OC.cl, OC.n_tree, Nat.lt_of_le_of_lt p1 (by decide), ?_⟩
    have p2 : (putF "_row_tree" (.ref t) (putF "_row_size" (num ws.length) ([] : List (Str × V)))).length ≤ 2 := Nat.le_trans (length_putF _ _ _) (Nat.succ_le_succ p1)
    have k4 : ∀ c u, c ≠ o → H3 c = some u → (upd H3 o (.ins C dx (putF "_row_tree" (.ref t) (putF "_row_size" (num ws.length) [])))) c = some u := fun c u hc z => by
      rw [upd_ne hc]
      exact z
    have e4 : (upd H3 o (.ins C dx (putF "_row_tree" (.ref t) (putF "_row_size" (num ws.length) [])))) o = some (.ins C dx (putF "_row_tree" (.ref t) (putF "_row_size" (num ws.length) []))) := upd_same
    generalize upd H3 o (.ins C dx (putF "_row_tree" (.ref t) (putF "_row_size" (num ws.length) []))) = H4 at *
    refine ⟨(by show 1 ≤ sizeLine; decide), fun p hp => ?_⟩
    have op : o ≠ p := ne_of_none e4 hp
    have s5 := same_new (o := .lst [.non]) hp
    have ep : (upd H4 p (.lst [.non])) p = some (.lst [.non]) := upd_same
    have np3 : H3 p = none := by
      cases z : H3 p with
      | none => rfl
      | some u => rw [k4 _ _ op.symm z] at hp; cases hp
    generalize upd H4 p (.lst [.non]) = H5 at *
    refine ⟨_, rfl, o, C, dx, _, rfl, s5 _ _ e4, OC.cl, OC.n_places, Nat.lt_of_le_of_lt p2 (by decide), ?_⟩
    have p3 : (putF "_row_places" (.ref p) (putF "_row_tree" (.ref t) (putF "_row_size" (num ws.length) ([] : List (Str × V))))).length ≤ 3 := Nat.le_trans (length_putF _ _ _) (Nat.succ_le_succ p2)
    have k6 : ∀ c u, c ≠ o → H5 c = some u → (upd H5 o (.ins C dx (putF "_row_places" (.ref p) (putF "_row_tree" (.ref t) (putF "_row_size" (num ws.length) []))))) c = some u := fun c u hc z => by
      rw [upd_ne hc]
      exact z
    have e6 : (upd H5 o (.ins C dx (putF "_row_places" (.ref p) (putF "_row_tree" (.ref t) (putF "_row_size" (num ws.length) []))))) o = some (.ins C dx (putF "_row_places" (.ref p) (putF "_row_tree" (.ref t) (putF "_row_size" (num ws.length) [])))) := upd_same
    generalize upd H5 o (.ins C dx (putF "_row_places" (.ref p) (putF "_row_tree" (.ref t) (putF "_row_size" (num ws.length) [])))) = H6 at *
    refine ⟨(by show 1 ≤ sizeLine; decide), fun k hk => ?_⟩
    have ok : o ≠ k := ne_of_none e6 hk
    have pk : p ≠ k := ne_of_none (k6 _ _ op.symm ep) hk
    have s7 := same_new (o := .lst [V.int 0]) hk
    have ek : (upd H6 k (.lst [V.int 0])) k = some (.lst [V.int 0]) := upd_same
    have nk3 : H3 k = none := by
      cases z : H3 k with
      | none => rfl
      | some u => rw [k6 _ _ ok.symm (s5 _ _ (k4 _ _ ok.symm z))] at hk; cases hk
    generalize upd H6 k (.lst [V.int 0]) = H7 at *
    have ek : H7 k = some (.lst ([0].map num)) := ek
    refine ⟨_, rfl, o, C, dx, _, rfl, s7 _ _ e6, OC.cl, OC.n_kept, Nat.lt_of_le_of_lt p3 (by decide), ?_⟩
    have p4 : (putF "_row_kept" (.ref k) (putF "_row_places" (.ref p) (putF "_row_tree" (.ref t) (putF "_row_size" (num ws.length) ([] : List (Str × V)))))).length ≤ 4 := Nat.le_trans (length_putF _ _ _) (Nat.succ_le_succ p3)
    have k8 : ∀ c u, c ≠ o → H7 c = some u → (upd H7 o (.ins C dx (putF "_row_kept" (.ref k) (putF "_row_places" (.ref p) (putF "_row_tree" (.ref t) (putF "_row_size" (num ws.length) [])))))) c = some u := fun c u hc z => by
      rw [upd_ne hc]
      exact z
    have e8 : (upd H7 o (.ins C dx (putF "_row_kept" (.ref k) (putF "_row_places" (.ref p) (putF "_row_tree" (.ref t) (putF "_row_size" (num ws.length) [])))))) o = some (.ins C dx (putF "_row_kept" (.ref k) (putF "_row_places" (.ref p) (putF "_row_tree" (.ref t) (putF "_row_size" (num ws.length) []))))) := upd_same
    generalize upd H7 o (.ins C dx (putF "_row_kept" (.ref k) (putF "_row_places" (.ref p) (putF "_row_tree" (.ref t) (putF "_row_size" (num ws.length) []))))) = H8 at *
    refine ⟨_, rfl, o, C, dx, _, rfl, e8, OC.cl, OC.n_steps, Nat.lt_of_le_of_lt p4 (by decide), ?_⟩
    have p5 : (putF "_row_steps" (.int 0) (putF "_row_kept" (.ref k) (putF "_row_places" (.ref p) (putF "_row_tree" (.ref t) (putF "_row_size" (num ws.length) ([] : List (Str × V))))))).length ≤ 5 := Nat.le_trans (length_putF _ _ _) (Nat.succ_le_succ p4)
    have k9 : ∀ c u, c ≠ o → H8 c = some u → (upd H8 o (.ins C dx (putF "_row_steps" (.int 0) (putF "_row_kept" (.ref k) (putF "_row_places" (.ref p) (putF "_row_tree" (.ref t) (putF "_row_size" (num ws.length) []))))))) c = some u := fun c u hc z => by
      rw [upd_ne hc]
      exact z
    have e9 : (upd H8 o (.ins C dx (putF "_row_steps" (.int 0) (putF "_row_kept" (.ref k) (putF "_row_places" (.ref p) (putF "_row_tree" (.ref t) (putF "_row_size" (num ws.length) []))))))) o = some (.ins C dx (putF "_row_steps" (.int 0) (putF "_row_kept" (.ref k) (putF "_row_places" (.ref p) (putF "_row_tree" (.ref t) (putF "_row_size" (num ws.length) [])))))) := upd_same
    generalize upd H8 o (.ins C dx (putF "_row_steps" (.int 0) (putF "_row_kept" (.ref k) (putF "_row_places" (.ref p) (putF "_row_tree" (.ref t) (putF "_row_size" (num ws.length) [])))))) = H9 at *
    generalize hfs : putF "_row_steps" (.int 0) (putF "_row_kept" (.ref k) (putF "_row_places" (.ref p) (putF "_row_tree" (.ref t) (putF "_row_size" (num ws.length) ([] : List (Str × V)))))) = fs at *
    have k19 : ∀ c u, c ≠ o → H3 c = some u → H9 c = some u := fun c u hc z => k9 _ _ hc (k8 _ _ hc (s7 _ _ (k6 _ _ hc (s5 _ _ (k4 _ _ hc z)))))
    have k09 : ∀ c u, c ≠ o → H c = some u → H9 c = some u := fun c u hc z => k19 _ _ hc (s3 _ _ (k2 _ _ hc z))
    have nb : fs.lookup ("begin" : Str) = none := by
      rw [← hfs, lookup_putF, if_neg (by decide), lookup_putF, if_neg (by decide), lookup_putF, if_neg (by decide), lookup_putF, if_neg (by decide), lookup_putF, if_neg (by decide)]
      rfl
    have hor9 : SqL K H9 a (ws.map V.int) ∨ SqT K H9 a (ws.map V.int) := hor.imp (fun z => SqL.of (k09 _ _ ao z)) fun z => SqT.of (k09 _ _ ao z)
    refine ⟨_, rfl, o, dx, fs, rfl, e9, nb, _, rfl, a, _, rfl, hor9, fun l hl => ?_⟩
    have s10 := same_new (o := .lst (ws.map V.int)) hl
    have el : (upd H9 l (.lst (ws.map V.int))) l = some (.lst (ws.map V.int)) := upd_same
    generalize upd H9 l (.lst (ws.map V.int)) = H10 at *
    have nto : ∀ c, Nt c → c ≠ o := fun c h e => by
      have z := g3 c h
      rw [e, e2] at z
      cases z
    have ol : l ≠ o := (ne_of_none e9 hl).symm
    have rows : RowB (fun c => c = o ∨ c = t ∨ c = p ∨ c = k ∨ (Nt c ∧ H3 c ≠ none)) H9 o C CL ws.length [] [] [0] 0 fs := by
      refine ⟨⟨dx, t, p, k, _, e9, by rw [← hfs]; rw [lookup_putF, if_neg (by decide), lookup_putF, if_neg (by decide), lookup_putF, if_neg (by decide), lookup_putF, if_neg (by decide), lookup_putF, if_pos rfl], by rw [← hfs]; rw [lookup_putF, if_neg (by decide), lookup_putF, if_neg (by decide), lookup_putF, if_neg (by decide), lookup_putF, if_pos rfl], by rw [← hfs]; rw [lookup_putF, if_neg (by decide), lookup_putF, if_neg (by decide), lookup_putF, if_pos rfl], by rw [← hfs]; rw [lookup_putF, if_neg (by decide), lookup_putF, if_pos rfl], by rw [← hfs]; rw [lookup_putF, if_pos rfl], fun g hg => ?_, Nat.lt_of_le_of_lt p5 (by decide), tw.cut.kp fun c u h z => k19 c u (h.elim (fun h => nto c h.1) fun e => e ▸ ot.symm) z, k9 _ _ op.symm (k8 _ _ op.symm (s7 _ _ (k6 _ _ op.symm ep))), k9 _ _ ok.symm (k8 _ _ ok.symm ek), .inl rfl, .inr (.inl rfl), .inr (.inr (.inl rfl)), .inr (.inr (.inr (.inl rfl))), fun c h => .inr (.inr (.inr (.inr h))), fun h => nto o h.1 rfl, fun h => nt h.1, fun h => h.2 np3, fun h => h.2 nk3, pk, ot⟩, rfl, ⟨h1, h2⟩, fun q hq => (by cases hq), fun i hi => (by rw [List.mem_singleton.mp hi]; exact Nat.le_refl 0), List.pairwise_singleton _ _⟩
      rw [← hfs]
      rw [lookup_putF, if_neg (fun z => hg (by rw [z]; decide)), lookup_putF, if_neg (fun z => hg (by rw [z]; decide)), lookup_putF, if_neg (fun z => hg (by rw [z]; decide)), lookup_putF, if_neg (fun z => hg (by rw [z]; decide)), lookup_putF, if_neg (fun z => hg (by rw [z]; decide))]
      rfl
    have rows := (rows.cut).same s10
    refine q l H10 _ fs rows p5 (fun g hg => ?_) el (upd_none' k09 ol hl) ol (fun h => h.2 hl) (fun c u hc z => s10 _ _ (k09 _ _ hc z)) (fun c h => ⟨?_, ?_⟩) _ _ fun v H2 z => z
    · rw [← hfs]
      rw [lookup_putF, if_neg (fun z => hg (by rw [z]; decide)), lookup_putF, if_neg (fun z => hg (by rw [z]; decide)), lookup_putF, if_neg (fun z => hg (by rw [z]; decide)), lookup_putF, if_neg (fun z => hg (by rw [z]; decide)), lookup_putF, if_neg (fun z => hg (by rw [z]; decide))]
      rfl
    · rcases h.1 with rfl | rfl | rfl | rfl | h
      · exact .inl rfl
      · exact .inr (n12 _ n1)
      · exact .inr (n12 _ (none_of' s3 np3))
      · exact .inr (n12 _ (none_of' s3 nk3))
      · exact .inr (n12 _ (g3 c h.1))
    · obtain ⟨u, hu⟩ := Option.ne_none_iff_exists'.mp h.2
      rw [s10 _ _ hu]
      simp
end
end K46
set_option maxHeartbeats 1000000
namespace K46
open PySem PySem.Spec PyProof.Rows L2 Gd
open C8 (clsBody Met pe_mt pe_mt0)
/-! ### halving -/
def hv (xs : List Nat) (x : Nat) : Nat → Nat → Nat → Nat × Nat
  | 0, b, _ => (b, 0)
  | f + 1, b, e => if e - b ≤ 1 then (b, 0) else if xs.getD ((b + e) / 2) 0 ≤ x then ((hv xs x f ((b + e) / 2) e).1, (hv xs x f ((b + e) / 2) e).2 + 1) else ((hv xs x f b ((b + e) / 2)).1, (hv xs x f b ((b + e) / 2)).2 + 1)
theorem hv_ok {xs : List Nat} {x : Nat} : ∀ f b e : Nat, e - b ≤ f → b < e → e ≤ xs.length → xs.getD b 0 ≤ x → (e = xs.length ∨ x < xs.getD e 0) → (hv xs x f b e).1 < xs.length ∧ xs.getD (hv xs x f b e).1 0 ≤ x ∧ ((hv xs x f b e).1 + 1 = xs.length ∨ x < xs.getD ((hv xs x f b e).1 + 1) 0)
  | 0, b, e, h, h1, h2, h3, h4 => absurd h (by omega)
  | f + 1, b, e, h, h1, h2, h3, h4 => by
    unfold hv
    by_cases z : e - b ≤ 1
    · rw [if_pos z]
      obtain rfl : e = b + 1 := by omega
      exact ⟨by show b < xs.length; omega, h3, h4⟩
    · rw [if_neg z]
      by_cases y : xs.getD ((b + e) / 2) 0 ≤ x
      · rw [if_pos y]
        exact hv_ok f _ e (by omega) (by omega) h2 y h4
      · rw [if_neg y]
        exact hv_ok f b _ (by omega) (by omega) (by omega) h3 (.inr (by omega))
/-- how many are looked at -/
def hvN (xs : List Nat) (x : Nat) : Nat := (hv xs x xs.length 0 xs.length).2 + 1
def hvB (xs : List Nat) (x : Nat) : Nat := (hv xs x xs.length 0 xs.length).1
theorem hvB_ok {xs : List Nat} {x : Nat} (h0 : 0 < xs.length) (h : xs.getD 0 0 ≤ x) : hvB xs x < xs.length ∧ xs.getD (hvB xs x) 0 ≤ x ∧ (hvB xs x + 1 = xs.length ∨ x < xs.getD (hvB xs x + 1) 0) := hv_ok _ _ _ (by omega) h0 (Nat.le_refl _) h (.inl rfl)
theorem hv_le (xs : List Nat) (x : Nat) : ∀ f b e : Nat, (hv xs x f b e).2 ≤ f
  | 0, b, e => Nat.le_refl 0
  | f + 1, b, e => by
    unfold hv
    have h1 := hv_le xs x f ((b + e) / 2) e
    have h2 := hv_le xs x f b ((b + e) / 2)
    split
    · exact Nat.zero_le _
    · split
      · show _ + 1 ≤ _
        omega
      · show _ + 1 ≤ _
        omega
theorem at_nums {xs : List Nat} {i : Nat} (h : i < xs.length) : atI (xs.map num) ((i : Nat) : Int) = some (num (xs.getD i 0)) := by
  refine atI_nat ?_
  rw [List.getElem?_map, List.getElem?_eq_getElem h, List.getD_eq_getElem?_getD, List.getElem?_eq_getElem h]
  rfl
section
variable {P : Program} {w : World} {K : PySem.W.Frag} {mg : Str → Option Value} {base : Heap} {C CL : Addr}
def spHalf : Sp := fun vs H Q _ => ∃ (a : Addr) (xs : List Nat) (x : Nat), vs = [.ref a, num x] ∧ H a = some (.lst (xs.map num)) ∧ 1 ≤ xs.length ∧ xs.length ≤ 100 ∧ ∀ (t : Addr) (H' : Hp), H t = none → H' t = some (.tup [num (hvB xs x), num (hvN xs x)]) → Same H H' → Q (.ref t) H'
theorem ok_half (T : Txt K mg) (D : DefAt K mg "found_by_halving" s_found_by_halving ["stands", "stand"]) : C8.Cal P w K mg base 1 "found_by_halving" spHalf [] := by
  obtain ⟨f, fd, F, m, b⟩ := D.ex
  refine ⟨f, fd, _, [], F.ok sc_found_by_halving (fun vs H Q E h => ?_) (fun cdv A outer s H vs Q E hr h => ?_), m, F.kp, b, .nil⟩
  · obtain ⟨a, xs, x, rfl, _⟩ := h
    rfl
  · obtain ⟨a, xs, x, rfl, ea, h1, h2, q⟩ := h
    refine ⟨_, (pss_cons (ps_set (i := 2) sc_found_by_halving.nd rfl (Or.inl rfl) pe_int)
      (pss_cons (ps_set (i := 3) sc_found_by_halving.nd rfl (Or.inl rfl) (pe_callB call_len (by rfl) T.b_len boot_len_ (pa_cons (pv 0) pa_nil)))
      (pss_cons (ps_set (i := 4) sc_found_by_halving.nd rfl (Or.inl rfl) pe_int)
      (pss_cons (ps_while PassesOwn.never (pt_cmpR op_gt (pe_op op_sub (pv 3) (pv 2)) pe_int (nomark _))
          (pss_cons (ps_set (i := 5) sc_found_by_halving.nd rfl (Or.inl rfl) (pe_op op_fdiv (pe_op op_add (pv 2) (pv 3)) pe_int))
          (pss_cons (ps_aug (i := 4) sc_found_by_halving.nd rfl (Or.inl rfl) pe_int ip_add)
          (pss_one (ps_if (pt_cmpR op_le (pe_ix ix_list (pv 0) (pv 5) (fun _ _ => rfl)) (pv 1) (nomark _))
              (pss_one (ps_set (i := 2) sc_found_by_halving.nd rfl (Or.inl rfl) (pv 5))) 
              (pss_one (ps_set (i := 3) sc_found_by_halving.nd rfl (Or.inl rfl) (pv 5))))))))
      (pss_one (ps_ret (pe_tup (pa_cons (pv 2) (pa_cons (pv 4) pa_nil))))))))), ?_⟩
    refine ⟨_, rfl, .ref a, _, rfl, .inl ⟨_, SqL.of ea, rfl⟩, ?_⟩
    rw [show (xs.map num).length = xs.length from List.length_map ..]
    refine ⟨fun k σ H' => ∃ (f b s : Nat) (y : Option V), σ = [some (.ref a), some (num x), some (num b), some (num (b + k)), some (num s), y] ∧ H' = H ∧ 0 < k ∧ k ≤ f ∧ b + k ≤ xs.length ∧ s + (hv xs x f b (b + k)).2 = hvN xs x ∧ (hv xs x f b (b + k)).1 = hvB xs x, ⟨xs.length, xs.length, 0, 1, none, ?_, rfl, by omega, Nat.le_refl _, by omega, ?_, ?_⟩, ?_⟩
    · rw [Nat.zero_add]
      rfl
    · rw [Nat.zero_add, Nat.add_comm]
      rfl
    · rw [Nat.zero_add]
      rfl
    · rintro k σ H3 ⟨f0, b, s, y, rfl, rfl, hk, hf, hb, hs, hr⟩
      refine ⟨_, rfl, _, rfl, _, _, rfl, rfl, _, _, rfl, rfl, _, rfl, ?_⟩
      obtain ⟨f0, rfl⟩ : ∃ g, f0 = g + 1 := ⟨f0 - 1, by omega⟩
      rw [hv] at hs hr
      by_cases hk1 : k = 1
      · subst hk1
        rw [if_pos (by omega)] at hs hr
        rw [decide_eq_false (by omega)]
        replace hr : b = hvB xs x := hr
        obtain rfl : s = hvN xs x := by
          have : s + 0 = hvN xs x := hs
          omega
        subst hr
        refine iteF ⟨_, rfl, _, rfl, (by show 2 ≤ sizeLine; decide), fun t ht => ?_⟩
        exact q t _ ht upd_same (same_new ht)
      · rw [decide_eq_true (by omega)]
        rw [if_neg (by omega)] at hs hr
        refine iteT ?_
        have hmid : ((((b : Nat) : Int) + ((b + k : Nat) : Int)) / 2) = (((b + (b + k)) / 2 : Nat) : Int) := by omega
        generalize hm : (b + (b + k)) / 2 = mid at *
        have m1 : b < mid := by omega
        have m2 : mid < b + k := by omega
        refine ⟨_, fun σ' H'' z => z, ?_⟩
        refine ⟨_, rfl, _, rfl, _, _, rfl, rfl, _, _, rfl, rfl, ⟨by decide, by decide⟩, ?_⟩
        dsimp only
        rw [hmid]
        refine ⟨_, rfl, _, _, rfl, rfl, ?_⟩
        refine ⟨_, rfl, _, rfl, a, _, _, num (xs.getD mid 0), rfl, rfl, SqL.of ea, at_nums (by omega), _, rfl, _, _, rfl, rfl, _, rfl, ?_⟩
        by_cases y0 : xs.getD mid 0 ≤ x
        · rw [if_pos y0] at hs hr
          rw [decide_eq_true (by omega)]
          refine iteT ⟨_, rfl, b + k - mid, by omega, f0, mid, s + 1, some (num mid), ?_, rfl, by omega, by omega, by omega, ?_, ?_⟩
          · rw [show mid + (b + k - mid) = b + k by omega]
            rfl
          · rw [show mid + (b + k - mid) = b + k by omega]
            replace hs : s + ((hv xs x f0 mid (b + k)).2 + 1) = hvN xs x := hs
            omega
          · rw [show mid + (b + k - mid) = b + k by omega]
            exact hr
        · rw [if_neg y0] at hs hr
          rw [decide_eq_false (by omega)]
          refine iteF ⟨_, rfl, mid - b, by omega, f0, b, s + 1, some (num mid), ?_, rfl, by omega, by omega, by omega, ?_, ?_⟩
          · rw [show b + (mid - b) = mid by omega]
            rfl
          · rw [show b + (mid - b) = mid by omega]
            replace hs : s + ((hv xs x f0 b mid).2 + 1) = hvN xs x := hs
            omega
          · rw [show b + (mid - b) = mid by omega]
            exact hr
end
end K46
namespace K46
open PySem PySem.Spec PyProof.Rows L2 Gd
open C8 (clsBody Met pe_mt pe_mt0)
abbrev T3 := Nat × Nat × Int
def d0 : T3 := (0, 0, 0)
/-- triples, as they lie -/
structure T3X (H : Hp) (xs : List V) (ts : List T3) : Prop where
  len : xs.length = ts.length
  at_ : ∀ (i : Nat) (c : T3), ts[i]? = some c → ∃ t, xs[i]? = some (.ref t) ∧ H t = some (.tup [num c.1, num c.2.1, .int c.2.2])
theorem T3X.kp {H H' : Hp} {xs : List V} {ts : List T3} (r : T3X H xs ts) (k : KT H H') : T3X H' xs ts := ⟨r.len, fun i c e => by
  obtain ⟨t, t1, t2⟩ := r.at_ i c e
  exact ⟨t, t1, k _ _ t2⟩⟩
theorem T3X.get {H : Hp} {xs : List V} {ts : List T3} (r : T3X H xs ts) {i : Nat} {x : V} (e : xs[i]? = some x) : ∃ c t, ts[i]? = some c ∧ x = .ref t ∧ H t = some (.tup [num c.1, num c.2.1, .int c.2.2]) := by
  have hl : i < xs.length := by
    by_cases z : i < xs.length
    · exact z
    · rw [List.getElem?_eq_none (by omega)] at e
      cases e
  have hc : i < ts.length := by rw [← r.len]; exact hl
  obtain ⟨t, t1, t2⟩ := r.at_ i _ (List.getElem?_eq_getElem hc)
  rw [e] at t1
  exact ⟨_, t, List.getElem?_eq_getElem hc, Option.some.inj t1, t2⟩
theorem T3X.snoc {H H' : Hp} {xs : List V} {ts : List T3} (r : T3X H xs ts) (k : KT H H') {t : Addr} {c : T3} (e : H' t = some (.tup [num c.1, num c.2.1, .int c.2.2])) : T3X H' (xs ++ [.ref t]) (ts ++ [c]) := by
  refine ⟨by rw [List.length_append, List.length_append, r.len]; rfl, fun i p h => ?_⟩
  by_cases hi : i < ts.length
  · rw [List.getElem?_append_left hi] at h
    obtain ⟨t', t1, t2⟩ := r.at_ i p h
    exact ⟨t', by rw [List.getElem?_append_left (by rw [r.len]; exact hi)]; exact t1, k _ _ t2⟩
  · rw [List.getElem?_append_right (by omega)] at h
    cases z : i - ts.length with
    | zero =>
      rw [z] at h
      cases h
      exact ⟨t, by rw [List.getElem?_append_right (by rw [r.len]; omega), r.len, z]; rfl, e⟩
    | succ n =>
      rw [z] at h
      simp at h
/-- where a run begins -/
def begT (ts : List T3) (i : Nat) : Bool := decide (i = 0) || decide ((ts.getD (i - 1) d0).2.1 ≠ (ts.getD i d0).2.1)
def firstT (ts : List T3) : List T3 := ((List.range ts.length).filter (begT ts)).map fun i => ts.getD i d0
def trip (ws vl : List Int) (q : Nat) (wf : Nat → Nat) (k : Nat) : T3 := (k, wf k, if wf k = 0 then ws.getD q 0 else vl.getD (wf k - 1) 0)
def beg (wf : Nat → Nat) (od : List Nat) (i : Nat) : Bool := decide (i = 0) || decide (wf (od.getD (i - 1) 0) ≠ wf (od.getD i 0))
def pos (wf : Nat → Nat) (od : List Nat) : List Nat := (List.range od.length).filter (beg wf od)
def rbox (ws vl : List Int) (q : Nat) (wf : Nat → Nat) (od : List Nat) : List T3 := (pos wf od).map fun i => trip ws vl q wf (od.getD i 0)
theorem getD_map {α β : Type} (f : α → β) (xs : List α) {i : Nat} (h : i < xs.length) (a : α) (b : β) : (xs.map f).getD i b = f (xs.getD i a) := by
  rw [List.getD_eq_getElem?_getD, List.getD_eq_getElem?_getD, List.getElem?_map, List.getElem?_eq_getElem h]
  rfl
theorem first_trip (ws vl : List Int) (q : Nat) (wf : Nat → Nat) (od : List Nat) : firstT (od.map (trip ws vl q wf)) = rbox ws vl q wf od := by
  unfold firstT rbox pos
  rw [List.length_map]
  have e : (List.range od.length).filter (begT (od.map (trip ws vl q wf))) = (List.range od.length).filter (beg wf od) := by
    refine List.filter_congr fun i hi => ?_
    have hi := List.mem_range.mp hi
    unfold begT beg
    rw [getD_map (trip ws vl q wf) od (show i - 1 < od.length by omega) 0, getD_map (trip ws vl q wf) od hi 0]
    rfl
  rw [e]
  refine List.map_congr_left fun i hi => ?_
  have hi := List.mem_range.mp (List.mem_filter.mp hi).1
  exact getD_map (trip ws vl q wf) od hi 0 d0
/-- one run has one writer -/
theorem run_same {wf : Nat → Nat} {od : List Nat} {p : Nat} : ∀ d : Nat, (∀ j, p < j → j ≤ p + d → beg wf od j = false) → wf (od.getD (p + d) 0) = wf (od.getD p 0)
  | 0, _ => rfl
  | d + 1, h => by
    have ih := run_same d fun j h1 h2 => h j h1 (by omega)
    have hb := h (p + (d + 1)) (by omega) (Nat.le_refl _)
    unfold beg at hb
    rw [Bool.or_eq_false_iff] at hb
    have h2 := of_decide_eq_false hb.2
    rw [← ih, show p + (d + 1) - 1 = p + d by omega] at *
    exact (Decidable.not_not.mp h2).symm
theorem pos_up (wf : Nat → Nat) (od : List Nat) : (pos wf od).Pairwise (· < ·) := List.pairwise_lt_range.filter _
theorem pos_mem {wf : Nat → Nat} {od : List Nat} {i : Nat} : i ∈ pos wf od ↔ i < od.length ∧ beg wf od i = true := by
  unfold pos
  rw [List.mem_filter, List.mem_range]
theorem pos_zero {wf : Nat → Nat} {od : List Nat} (h : 0 < od.length) : (pos wf od).getD 0 0 = 0 ∧ 0 < (pos wf od).length := by
  have hm : 0 ∈ pos wf od := pos_mem.mpr ⟨h, rfl⟩
  obtain ⟨j, hj⟩ := List.mem_iff_getElem?.mp hm
  obtain ⟨b1, b2⟩ := List.getElem?_eq_some_iff.mp hj
  refine ⟨?_, by omega⟩
  rw [List.getD_eq_getElem?_getD, List.getElem?_eq_getElem (by omega)]
  show (pos wf od)[0] = 0
  by_cases z : j = 0
  · subst z
    exact b2
  · have := List.pairwise_iff_getElem.mp (pos_up wf od) 0 j (by omega) b1 (by omega)
    omega
/-- what the halving finds is the run of the make -/
theorem pos_found {wf : Nat → Nat} {od : List Nat} {i : Nat} (hi : i < od.length) : hvB (pos wf od) i < (pos wf od).length ∧ wf (od.getD ((pos wf od).getD (hvB (pos wf od) i) 0) 0) = wf (od.getD i 0) := by
  obtain ⟨h0, hl⟩ := pos_zero (wf := wf) (show 0 < od.length by omega)
  obtain ⟨a1, a2, a3⟩ := hvB_ok (xs := pos wf od) (x := i) hl (by rw [h0]; omega)
  refine ⟨a1, ?_⟩
  obtain ⟨d, hd⟩ : ∃ d, i = (pos wf od).getD (hvB (pos wf od) i) 0 + d := ⟨i - (pos wf od).getD (hvB (pos wf od) i) 0, by omega⟩
  have := run_same (wf := wf) (od := od) (p := (pos wf od).getD (hvB (pos wf od) i) 0) d fun j h1 h2 => by
    cases z : beg wf od j with
    | false => rfl
    | true =>
      exfalso
      have hm : j ∈ pos wf od := pos_mem.mpr ⟨by omega, z⟩
      obtain ⟨m, hm2⟩ := List.mem_iff_getElem?.mp hm
      obtain ⟨b1, b2⟩ := List.getElem?_eq_some_iff.mp hm2
      have gd : ∀ n (h : n < (pos wf od).length), (pos wf od).getD n 0 = (pos wf od)[n] := fun n h => by
        rw [List.getD_eq_getElem?_getD, List.getElem?_eq_getElem h]
        rfl
      rw [gd _ a1] at h1 a2
      by_cases y : m ≤ hvB (pos wf od) i
      · by_cases y2 : m = hvB (pos wf od) i
        · subst y2
          omega
        · have := List.pairwise_iff_getElem.mp (pos_up wf od) m _ b1 a1 (by omega)
          omega
      · rcases a3 with a3 | a3
        · omega
        · have hb : hvB (pos wf od) i + 1 < (pos wf od).length := by omega
          rw [gd _ hb] at a3
          by_cases y2 : m = hvB (pos wf od) i + 1
          · subst y2
            omega
          · have := List.pairwise_iff_getElem.mp (pos_up wf od) _ m hb b1 (by omega)
            omega
  rw [← hd] at this
  exact this.symm
section
variable {P : Program} {w : World} {K : PySem.W.Frag} {mg : Str → Option Value} {base : Heap} {C CL : Addr}
def spFirst : Sp := fun vs H Q _ => ∃ (a : Addr) (xs : List V) (ts : List T3), vs = [.ref a] ∧ H a = some (.lst xs) ∧ T3X H xs ts ∧ ts.length ≤ 100 ∧ ∀ (p : Addr) (H' : Hp) (ys : List V), H p = none → H' p = some (.lst ys) → T3X H' ys (firstT ts) → Same H H' → Q (.ref p) H'
theorem ok_first (T : Txt K mg) (D : DefAt K mg "_first_of_runs" s__first_of_runs ["turns"]) : C8.Cal P w K mg base 1 "_first_of_runs" spFirst [] := by
  obtain ⟨f, fd, F, m, b⟩ := D.ex
  refine ⟨f, fd, _, [], F.ok sc__first_of_runs (fun vs H Q E h => ?_) (fun cdv A outer s H vs Q E hr h => ?_), m, F.kp, b, .nil⟩
  · obtain ⟨a, xs, ts, rfl, _⟩ := h
    rfl
  · obtain ⟨a, xs, ts, rfl, ea, tx, h100, q⟩ := h
    refine ⟨_, (pss_one (ps_ret (pe_lc (own := [("at", 1), ("turn", 2)]) (g := gTup K 2 (gCons (gName 1) (gCons (gName 2) gNil))) (tt := _) rfl sc__first_of_runs.nd (pi_enum (by rfl) T.b_enumerate (pa_cons (pv 0) pa_nil)) (blkOk_by (own := [("at", 1), ("turn", 2)]) (N := ["turns", "at", "turn"]) (sc := defScope s__first_of_runs) (by decide +kernel)) (fun _ _ _ _ _ => by exact (pg_tup (by rfl) (pgs_cons (pg_name (i := 1) sc__first_of_runs.nd rfl (Or.inl rfl)) (pgs_cons (pg_name (i := 2) sc__first_of_runs.nd rfl (Or.inl rfl)) pgs_nil)))) (fun _ _ _ _ _ => (pts_one (PW.pt (pw_or (pt_cmpR op_eq (pv 1) pe_int (nomark _)) (pw_or1 (pt_cmpR op_ne (pe_ix (show IxR _ (rIxT K) from ix_tup) (pe_ix (show IxR _ (rIxL K) from ix_list) (pv 0) (pe_op op_sub (pv 1) pe_int) (fun _ _ => rfl)) pe_int (fun _ _ => rfl)) (pe_ix (show IxR _ (rIxT K) from ix_tup) (pv 2) pe_int (fun _ _ => rfl)) (nomark _))))))) (fun _ _ _ _ _ => (pv 2))))), ?_⟩
    have hxl := tx.len
    refine ⟨_, rfl, a, _, rfl, SqL.of ea, fun D hD => ?_⟩
    refine lc_it (walk_enum (xs := xs)) (fun k H' => Same H H' ∧ ∃ ys, H' D = some (.lst ys) ∧ T3X H' ys (((List.range k).filter (begT ts)).map fun i => ts.getD i d0)) ⟨same_new hD, [], upd_same, ⟨rfl, fun i c e => by cases e⟩⟩ (fun k H' _ hP => SqL.of (hP.1 _ _ ea)) (fun k v H2 H3 hk hP hY => ?_) (fun H2 hP => ?_)
    · obtain ⟨s2, ys, d2, ty⟩ := hP
      obtain ⟨Tp, u, v', rfl, hT, rfl, hu, hv⟩ := hY
      replace hu : some (V.int (k : Nat)) = some u := hu
      replace hv : xs[k]? = some v' := hv
      cases (Option.some.inj hu)
      obtain ⟨c, t, hc, rfl, ht⟩ := tx.get hv
      have hk2 : k < ts.length := (List.getElem?_eq_some_iff.mp hc).1
      have s23 := same_new (o := .tup [V.int (k : Nat), .ref t]) hT
      have f3 : (upd H2 Tp (.tup [V.int (k : Nat), .ref t])) Tp = some (.tup [V.int (k : Nat), .ref t]) := upd_same
      generalize upd H2 Tp (.tup [V.int (k : Nat), .ref t]) = H3 at *
      have s3 := s2.trans s23
      have ht3 := s3 _ _ ht
      have d3 := s23 _ _ d2
      have ty3 := ty.kp (KT.of s23)
      have yl := ty3.len
      rw [List.length_map] at yl
      have yl2 := List.length_filter_le (begT ts) (List.range k)
      rw [List.length_range] at yl2
      have hcg : ts.getD k d0 = c := by
        rw [List.getD_eq_getElem?_getD, hc]
        rfl
      refine ⟨Tp, _, rfl, SqT.of f3, rfl, _, _, rfl, _, _, rfl, rfl, ?_⟩
      have yes : begT ts k = true → Same H (upd H3 D (.lst (ys ++ [.ref t]))) ∧ ∃ ys', (upd H3 D (.lst (ys ++ [.ref t]))) D = some (.lst ys') ∧ T3X (upd H3 D (.lst (ys ++ [.ref t]))) ys' (((List.range (k + 1)).filter (begT ts)).map fun i => ts.getD i d0) := fun hb => by
        have kD : ∀ c' u, c' ≠ D → H3 c' = some u → (upd H3 D (.lst (ys ++ [.ref t]))) c' = some u := fun c' u hc z => by
          rw [upd_ne hc]
          exact z
        refine ⟨fun c' u z => kD _ _ (ne_of_none z hD) (s3 _ _ z), _, upd_same, ?_⟩
        rw [List.range_succ, List.filter_append, List.map_append, List.filter_cons_of_pos hb, List.filter_nil]
        refine ty3.snoc (c := ts.getD k d0) (fun c' zs z => kD _ _ (fun e => by rw [e, d3] at z; cases z) z) (kD _ _ (fun e => by rw [e, d3] at ht3; cases ht3) ?_)
        rw [hcg]
        exact ht3
      have no : ¬ begT ts k = true → Same H H3 ∧ ∃ ys', H3 D = some (.lst ys') ∧ T3X H3 ys' (((List.range (k + 1)).filter (begT ts)).map fun i => ts.getD i d0) := fun hb => by
        refine ⟨s3, ys, d3, ?_⟩
        rw [List.range_succ, List.filter_append, List.filter_cons_of_neg hb, List.filter_nil, List.append_nil]
        exact ty3
      refine ⟨rfl, _, rfl, rfl, _, rfl, ite2 (fun hz => ?_) (fun hz => ?_)⟩
      · have hz0 : k = 0 := num_eq (of_decide_eq_true hz)
        refine iteT ⟨_, rfl, _, d3, small1000 (by omega), yes (by subst hz0; rfl)⟩
      · have hz0 : k ≠ 0 := fun e => hz (decide_eq_true (by rw [e]; rfl))
        obtain ⟨c', hc'⟩ : ∃ c', ts[k - 1]? = some c' := ⟨ts[k - 1], List.getElem?_eq_getElem (by omega)⟩
        obtain ⟨t', t1, t2⟩ := tx.at_ _ c' hc'
        have hcg' : ts.getD (k - 1) d0 = c' := by
          rw [List.getD_eq_getElem?_getD, hc']
          rfl
        have ek : ((k : Nat) : Int) - 1 = ((k - 1 : Nat) : Int) := by omega
        refine ⟨_, rfl, _, rfl, _, _, rfl, rfl, a, _, _, .ref t', rfl, rfl, SqL.of (s3 _ _ ea), (by show atI xs (((k : Nat) : Int) - 1) = _; rw [ek]; exact atI_nat t1), t', _, _, num c'.2.1, rfl, rfl, SqT.of (s3 _ _ t2), rfl, _, rfl, t, _, _, num c.2.1, rfl, rfl, SqT.of ht3, rfl, rfl, _, rfl, ite2 (fun hn => ?_) (fun hn => ?_)⟩
        · refine ⟨_, rfl, _, d3, small1000 (by omega), yes ?_⟩
          unfold begT
          rw [hcg, hcg']
          have : c'.2.1 ≠ c.2.1 := fun e => by
            rw [e] at hn
            simp at hn
          rw [decide_eq_true this, Bool.or_true]
        · refine no fun hb => hn ?_
          unfold begT at hb
          rw [hcg, hcg', decide_eq_false hz0, Bool.false_or] at hb
          have hb := of_decide_eq_true hb
          have : decide (num c'.2.1 = num c.2.1) = false := decide_eq_false fun e => hb (num_eq e)
          rw [this]
          rfl
    · obtain ⟨s2, ys, d2, ty⟩ := hP
      rw [hxl] at ty
      exact q D H2 ys hD d2 ty s2
end
end K46
namespace K46
open PySem PySem.Spec PyProof.Rows L2 Gd
open C8 (clsBody Met pe_mt pe_mt0)
/-- the order and the boxes of a row, Ne their own -/
structure ExtW (Ne : Addr → Prop) (H : Hp) (fs : List (Str × V)) (ws vl : List Int) (wf : Nat → Nat → Nat) (od : List Nat) : Prop where
  ex : ∃ (r d : Addr) (bs : List Addr), fs.lookup ("_order" : Str) = some (.ref r) ∧ H r = some (.lst (od.map num)) ∧ Ne r ∧ fs.lookup ("_boxes" : Str) = some (.ref d) ∧ H d = some (.lst (bs.map V.ref)) ∧ Ne d ∧ r ≠ d ∧ od.Nodup ∧ bs.length = ws.length ∧ d ∉ bs ∧ r ∉ bs ∧ bs.Nodup ∧ (∀ b, b ∈ bs → Ne b) ∧
    ∀ (q : Nat) (b : Addr), bs[q]? = some b → ∃ xs, H b = some (.lst xs) ∧ T3X H xs (rbox ws vl q (wf q) od)
structure Ext (Ne : Addr → Prop) (H : Hp) (fs : List (Str × V)) (ws : List Int) (ow pc : List Nat) (vl : List Int) (ks od : List Nat) : Prop where
  w : ExtW Ne H fs ws vl (fun q => wrt ow pc q 64) od
  pm : od.Perm ks
/-- laid, and no tuple -/
def Ld (H : Hp) (c : Addr) : Prop := ∃ u, H c = some u ∧ ∀ ys, u ≠ .tup ys
theorem Ld.kp {H H' : Hp} {c : Addr} (l : Ld H c) (k : ∀ u, H c = some u → H' c = some u) : Ld H' c := by
  obtain ⟨u, e, n⟩ := l
  exact ⟨u, k u e, n⟩
theorem Ld.ne {H : Hp} {c : Addr} (l : Ld H c) : H c ≠ none := by
  obtain ⟨u, e, n⟩ := l
  rw [e]
  simp
theorem Ld.lst {H : Hp} {c : Addr} {xs : List V} (e : H c = some (.lst xs)) : Ld H c := ⟨_, e, fun _ z => by cases z⟩
theorem Ld.ins {H : Hp} {c C dx : Addr} {fs : List (Str × V)} (e : H c = some (.ins C dx fs)) : Ld H c := ⟨_, e, fun _ z => by cases z⟩
section
variable {Ne : Addr → Prop} {H H' : Hp} {fs fs' : List (Str × V)} {ws : List Int} {ow pc : List Nat} {vl : List Int} {ks od : List Nat} {wf : Nat → Nat → Nat}
theorem ExtW.kp (x : ExtW Ne H fs ws vl wf od) (k : ∀ c u, Ne c → H c = some u → H' c = some u) (kt : KT H H') : ExtW Ne H' fs ws vl wf od := by
  obtain ⟨r, d, bs, l1, er, nr, l2, ed, nd, rd, pm, h1, h2, h3, h4, h5, h6⟩ := x.ex
  refine ⟨r, d, bs, l1, k _ _ nr er, nr, l2, k _ _ nd ed, nd, rd, pm, h1, h2, h3, h4, h5, fun q b hb => ?_⟩
  obtain ⟨xs, eb, cx⟩ := h6 q b hb
  exact ⟨xs, k _ _ (h5 b (List.mem_of_getElem? hb)) eb, cx.kp kt⟩
theorem ExtW.fld (x : ExtW Ne H fs ws vl wf od) (e : fs'.lookup ("_boxes" : Str) = fs.lookup ("_boxes" : Str)) (e' : fs'.lookup ("_order" : Str) = fs.lookup ("_order" : Str)) : ExtW Ne H fs' ws vl wf od := by
  obtain ⟨r, d, bs, l1, er, nr, l2, rest⟩ := x.ex
  exact ⟨r, d, bs, e'.trans l1, er, nr, e.trans l2, rest⟩
theorem Ext.kp (x : Ext Ne H fs ws ow pc vl ks od) (k : ∀ c u, Ne c → H c = some u → H' c = some u) (kt : KT H H') : Ext Ne H' fs ws ow pc vl ks od := ⟨x.w.kp k kt, x.pm⟩
theorem Ext.fld (x : Ext Ne H fs ws ow pc vl ks od) (e : fs'.lookup ("_boxes" : Str) = fs.lookup ("_boxes" : Str)) (e' : fs'.lookup ("_order" : Str) = fs.lookup ("_order" : Str)) : Ext Ne H fs' ws ow pc vl ks od := ⟨x.w.fld e e', x.pm⟩
end
/-- a row at o, N its own -/
structure RowA (N : Addr → Prop) (H : Hp) (o C CL : Addr) (ws : List Int) (ow pc : List Nat) (vl : List Int) (ks od : List Nat) (st : Int) : Prop where
  ex : ∃ (NB Ne : Addr → Prop) (fs : List (Str × V)), RowB NB H o C CL ws.length ow pc ks st fs ∧ Ext Ne H fs ws ow pc vl ks od ∧ (∀ c, NB c → N c) ∧ (∀ c, Ne c → N c) ∧ ∀ c, NB c → ¬ Ne c
  lv : vl.length = ow.length
  laid : ∀ c, N c → Ld H c
structure Fit (ws : List Int) (ow pc : List Nat) (vl : List Int) : Prop where
  low : Low ow
  few : ow.length ≤ 63
  lp : pc.length = ow.length
  lv : vl.length = ow.length
  sz : 1 ≤ ws.length ∧ ws.length ≤ 16
section
variable {N : Addr → Prop} {H H' : Hp} {o C CL : Addr} {ws : List Int} {ow pc : List Nat} {vl : List Int} {ks od : List Nat} {st : Int}
theorem RowA.kp (r : RowA N H o C CL ws ow pc vl ks od st) (k : ∀ c u, N c → H c = some u → H' c = some u) (kt : KT H H') : RowA N H' o C CL ws ow pc vl ks od st := by
  obtain ⟨NB, Ne, fs, rb, x, s1, s2, dj⟩ := r.ex
  exact ⟨⟨NB, Ne, fs, rb.kp fun c u h z => k c u (s1 c h) z, x.kp (fun c u h z => k c u (s2 c h) z) kt, s1, s2, dj⟩, r.lv, fun c h => (r.laid c h).kp fun u z => k c u h z⟩
theorem RowA.same (r : RowA N H o C CL ws ow pc vl ks od st) (s : Same H H') : RowA N H' o C CL ws ow pc vl ks od st := r.kp (fun c u _ z => s c u z) (KT.of s)
theorem RowA.b (r : RowA N H o C CL ws ow pc vl ks od st) : ∃ NB fs, RowB NB H o C CL ws.length ow pc ks st fs ∧ (∀ c, NB c → N c) := by
  obtain ⟨NB, Ne, fs, rb, x, s1, s2, dj⟩ := r.ex
  exact ⟨NB, fs, rb, s1⟩
theorem RowA.ins (r : RowA N H o C CL ws ow pc vl ks od st) : ∃ dx fs, H o = some (.ins C dx fs) ∧ (∀ f, f ∉ rfields → fs.lookup f = none) := by
  obtain ⟨NB, fs, rb, _⟩ := r.b
  obtain ⟨dx, e, nl⟩ := rb.ins
  exact ⟨dx, fs, e, nl⟩
theorem RowA.own (r : RowA N H o C CL ws ow pc vl ks od st) : N o := by
  obtain ⟨NB, fs, rb, s1⟩ := r.b
  exact s1 _ rb.own
theorem RowA.kt (r : RowA N H o C CL ws ow pc vl ks od st) (k : ∀ c u, ¬ N c → H c = some u → H' c = some u) : KT H H' := fun c ys z => k c _ (fun h => by
  obtain ⟨u, e, n⟩ := r.laid c h
  rw [z] at e
  cases e
  exact n ys rfl) z
theorem RowA.fit (r : RowA N H o C CL ws ow pc vl ks od st) : Fit ws ow pc vl := by
  obtain ⟨NB, Ne, fs, rb, x, s1, s2, dj⟩ := r.ex
  exact ⟨rb.low.1, rb.low.2, rb.lp, r.lv, rb.sz⟩
theorem RowA.kl (r : RowA N H o C CL ws ow pc vl ks od st) : ∀ i, i ∈ ks → i ≤ ow.length := by
  obtain ⟨NB, fs, rb, _⟩ := r.b
  exact rb.kl
/-- a step counted -/
theorem RowA.mono {M : Addr → Prop} (r : RowA N H o C CL ws ow pc vl ks od st) (s : ∀ c, N c → M c) (l : ∀ c, M c → Ld H c) : RowA M H o C CL ws ow pc vl ks od st := by
  obtain ⟨NB, Ne, fs, rb, x, s1, s2, dj⟩ := r.ex
  exact ⟨⟨NB, Ne, fs, rb, x, fun c h => s c (s1 c h), fun c h => s c (s2 c h), dj⟩, r.lv, l⟩
end
theorem rbox_first (ws : List Int) (q : Nat) : rbox ws [] q (wrt [] [] q 64) [0] = [(0, 0, ws.getD q 0)] := by
  have e : pos (wrt [] [] q 64) [0] = [0] := rfl
  unfold rbox
  rw [e]
  show [trip ws [] q (wrt [] [] q 64) 0] = _
  unfold trip
  rw [wrt_none]
  rfl
section
variable {P : Program} {w : World} {K : PySem.W.Frag} {mg : Str → Option Value} {base : Heap} {C CL : Addr}
def spBegin (C : Addr) : Sp := fun vs H Q _ => ∃ (o l dx : Addr) (fs : List (Str × V)) (ws : List Int), vs = [.ref o, .ref l] ∧ H o = some (.ins C dx fs) ∧ H l = some (.lst (ws.map V.int)) ∧ fs.length < 98 ∧ ws.length ≤ 16 ∧
  ∀ (r d : Addr) (H' : Hp) (Ne : Addr → Prop), H' o = some (.ins C dx (putF "_boxes" (.ref d) (putF "_order" (.ref r) fs))) → Ext Ne H' (putF "_boxes" (.ref d) (putF "_order" (.ref r) fs)) ws [] [] [] [0] [0] → (∀ c, Ne c → H c = none ∧ Ld H' c) → (∀ c u, c ≠ o → H c = some u → H' c = some u) → Q .non H'
theorem ok_begin (T : Txt K mg) (OC : RowC K C) (M : MAt K C "begin" "Boxed.begin" s_Boxed_begin ["self", "worths"]) : Met P w K mg base 1 C "begin" (spBegin C) [] := by
  refine M.met OC.cl sc_Boxed_begin (fun vs H Q E h => ?_) (fun f cdv A outer s H vs Q E hr h => ?_)
  · obtain ⟨o, l, dx, fs, ws, rfl, _⟩ := h
    rfl
  · obtain ⟨o, l, dx, fs, ws, rfl, e0, el0, lf, h16, q⟩ := h
    refine ⟨_, (pss_cons (ps_fld (pv 0) (pe_lst (pa_cons pe_int pa_nil)) rfl)
      (pss_one (ps_fld (pv 0) (pe_lc (own := [("worth", 2)]) (g := gName 2) (tt := tYes) rfl sc_Boxed_begin.nd (pi_list (pv 1)) (blkOk_by (own := [("worth", 2)]) (N := ["self", "worths", "worth"]) (sc := defScope s_Boxed_begin) (by decide +kernel)) (fun _ _ _ _ _ => pg_name (i := 2) sc_Boxed_begin.nd rfl (Or.inl rfl)) (fun _ _ _ _ _ => pts_nil) (fun _ _ _ _ _ => (pe_lst (pa_cons (pe_tup (pa_cons pe_int (pa_cons pe_int (pa_cons (pv 2) pa_nil)))) pa_nil)))) rfl))), ?_⟩
    refine ⟨(by show 1 ≤ sizeLine; decide), fun r hr0 => ?_⟩
    have s1 := same_new (o := .lst [V.int 0]) hr0
    have er0 : (upd H r (.lst [V.int 0])) r = some (.lst ([0].map num)) := upd_same
    have orr : o ≠ r := ne_of_none e0 hr0
    have lo : l ≠ o := fun e => by rw [e, e0] at el0; cases el0
    generalize upd H r (.lst [V.int 0]) = Ha at *
    refine ⟨_, rfl, o, C, dx, fs, rfl, s1 _ _ e0, OC.cl, OC.n_order, by omega, ?_⟩
    have lf1 : (putF "_order" (.ref r) fs).length ≤ fs.length + 1 := length_putF _ _ _
    have ka : ∀ c u, c ≠ o → Ha c = some u → (upd Ha o (.ins C dx (putF "_order" (.ref r) fs))) c = some u := fun c u hc z => by
      rw [upd_ne hc]
      exact z
    have e1 : (upd Ha o (.ins C dx (putF "_order" (.ref r) fs))) o = some (.ins C dx (putF "_order" (.ref r) fs)) := upd_same
    have ro : r ≠ o := orr.symm
    have er1 := ka _ _ ro er0
    have el := ka _ _ lo (s1 _ _ el0)
    have nH : ∀ c, (upd Ha o (.ins C dx (putF "_order" (.ref r) fs))) c = none → H c = none := fun c z => none_of' s1 (upd_none z)
    have kH : ∀ c u, c ≠ o → H c = some u → (upd Ha o (.ins C dx (putF "_order" (.ref r) fs))) c = some u := fun c u hc z => ka c u hc (s1 _ _ z)
    generalize upd Ha o (.ins C dx (putF "_order" (.ref r) fs)) = Hb at *
    refine ⟨_, rfl, l, rfl, ⟨_, SqL.of el⟩, fun B hB => ?_⟩
    have oB : o ≠ B := ne_of_none e1 hB
    refine lc_it (walk_list (xs := ws.map V.int)) (fun k H' => Same Hb H' ∧ ∃ bs : List Addr, H' B = some (.lst (bs.map V.ref)) ∧ bs.length = k ∧ bs.Nodup ∧ B ∉ bs ∧ (∀ b, b ∈ bs → Hb b = none) ∧ ∀ (j : Nat) (b : Addr), bs[j]? = some b → ∃ t, H' b = some (.lst [.ref t]) ∧ H' t = some (.tup [num 0, num 0, .int (ws.getD j 0)])) ⟨same_new hB, [], upd_same, rfl, List.nodup_nil, List.not_mem_nil, (fun b hb => by cases hb), fun j b hj => by cases hj⟩ (fun k H' _ hP => SqL.of (hP.1 _ _ el)) (fun k v H2 H3 hk hP hY => ?_) (fun H2 hP => ?_)
    · obtain ⟨s2, bs, eB, hl, nd, nB, fr, hb⟩ := hP
      obtain ⟨rfl, hki⟩ := hY
      rw [List.length_map] at hk
      rw [List.getElem?_map, List.getElem?_eq_getElem hk] at hki
      cases (Option.some.inj hki)
      refine ⟨rfl, yesI ?_⟩
      refine ⟨_, rfl, (by show 3 ≤ sizeLine; decide), fun t ht => ⟨(by show 1 ≤ sizeLine; decide), fun b hb0 => ?_⟩⟩
      have s3 := same_new (o := .tup [V.int 0, V.int 0, .int ws[k]]) ht
      have et : (upd H3 t (.tup [V.int 0, V.int 0, .int ws[k]])) t = some (.tup [V.int 0, V.int 0, .int ws[k]]) := upd_same
      generalize upd H3 t (.tup [V.int 0, V.int 0, .int ws[k]]) = H4 at *
      have s4 := same_new (o := .lst [V.ref t]) hb0
      have eb : (upd H4 b (.lst [V.ref t])) b = some (.lst [V.ref t]) := upd_same
      generalize upd H4 b (.lst [V.ref t]) = H5 at *
      have eB5 := s4 _ _ (s3 _ _ eB)
      have hb2 := none_of' s3 hb0
      have bB : b ≠ B := fun e => by rw [e, eB] at hb2; cases hb2
      have tB : t ≠ B := fun e => by rw [e, eB] at ht; cases ht
      have nb : b ∉ bs := fun h => by
        obtain ⟨j, hj⟩ := List.getElem?_of_mem h
        obtain ⟨t', e', _⟩ := hb j b hj
        rw [e'] at hb2
        cases hb2
      have k6 : ∀ c u, c ≠ B → H5 c = some u → (upd H5 B (.lst (bs.map V.ref ++ [V.ref b]))) c = some u := fun c u hc z => by
        rw [upd_ne hc]
        exact z
      refine ⟨_, eB5, ?_, fun c u z => ?_, bs ++ [b], ?_, by rw [List.length_append, hl]; rfl, ?_, fun h => ?_, fun b' h => ?_, fun j b' h => ?_⟩
      · rw [List.length_map, hl]
        exact small1000 (by omega)
      · exact k6 _ _ (ne_of_none z hB) (s4 _ _ (s3 _ _ (s2 _ _ z)))
      · rw [upd_same, List.map_append]
        rfl
      · exact List.nodup_append.mpr ⟨nd, List.pairwise_singleton _ _, fun x hx y hy e => nb (by rw [← List.mem_singleton.mp hy, ← e]; exact hx)⟩
      · rcases List.mem_append.mp h with h | h
        · exact nB h
        · exact bB (List.mem_singleton.mp h).symm
      · rcases List.mem_append.mp h with h | h
        · exact fr b' h
        · rw [List.mem_singleton.mp h]
          exact none_of' s2 hb2
      · by_cases hj : j < bs.length
        · rw [List.getElem?_append_left hj] at h
          obtain ⟨t', e1', e2'⟩ := hb j b' h
          exact ⟨t', k6 _ _ (fun e => nB (e ▸ List.mem_of_getElem? h)) (s4 _ _ (s3 _ _ e1')), k6 _ _ (fun e => by rw [e, eB] at e2'; cases e2') (s4 _ _ (s3 _ _ e2'))⟩
        · rw [List.getElem?_append_right (by omega)] at h
          obtain ⟨rfl, rfl⟩ : j = k ∧ b' = b := by
            cases z : j - bs.length with
            | zero =>
              rw [z] at h
              cases h
              exact ⟨by omega, rfl⟩
            | succ m =>
              rw [z] at h
              cases h
          refine ⟨t, k6 _ _ bB eb, k6 _ _ tB ?_⟩
          rw [List.getD_eq_getElem?_getD, List.getElem?_eq_getElem hk]
          exact s4 _ _ et
    · obtain ⟨s2, bs, eB, hl, nd, nB, fr, hb⟩ := hP
      rw [List.length_map] at hl
      have k9 : ∀ c u, c ≠ o → H2 c = some u → (upd H2 o (.ins C dx (putF "_boxes" (.ref B) (putF "_order" (.ref r) fs)))) c = some u := fun c u hc z => by
        rw [upd_ne hc]
        exact z
      refine ⟨_, rfl, o, C, dx, _, rfl, s2 _ _ e1, OC.cl, OC.n_boxes, by omega, ?_⟩
      have ob : ∀ b, b ∈ bs → b ≠ o := fun b h e => by
        have := fr b h
        rw [e, e1] at this
        cases this
      have rB : r ≠ B := ne_of_none er1 hB
      refine q r B _ (fun c => c = r ∨ c = B ∨ c ∈ bs) upd_same ⟨⟨r, B, bs, by rw [lookup_putF, if_neg (by decide), lookup_putF, if_pos rfl], k9 _ _ ro (s2 _ _ er1), .inl rfl, by rw [lookup_putF, if_pos rfl], k9 _ _ oB.symm eB, .inr (.inl rfl), rB, by decide, hl, nB, (fun h => by
        have := fr r h
        rw [er1] at this
        cases this), nd, fun b h => .inr (.inr h), fun q b hq => ?_⟩, List.Perm.refl _⟩ (fun c h => ?_) (fun c u hc z => k9 _ _ hc (s2 _ _ (kH c u hc z)))
      · obtain ⟨t, e1', e2'⟩ := hb q b hq
        refine ⟨_, k9 _ _ (ob b (List.mem_of_getElem? hq)) e1', ?_⟩
        rw [rbox_first]
        refine ⟨rfl, fun i c e => ?_⟩
        match i, e with
        | 0, e =>
          cases e
          exact ⟨t, rfl, k9 _ _ (fun h => by rw [h, s2 _ _ e1] at e2'; cases e2') e2'⟩
        | i + 1, e => simp at e
      · rcases h with rfl | rfl | h
        · exact ⟨hr0, .lst (k9 _ _ ro (s2 _ _ er1))⟩
        · exact ⟨nH _ hB, .lst (k9 _ _ oB.symm eB)⟩
        · obtain ⟨j, hj⟩ := List.getElem?_of_mem h
          obtain ⟨t, e1', _⟩ := hb j c hj
          exact ⟨nH _ (fr c h), .lst (k9 _ _ (ob c h) e1')⟩
end
end K46
/-! a method that returns super().m(..) -/
namespace Gs
open PySem PySem.Spec PyProof.Rows L2 Gd NdefX
open PySem.Calls
open PySem.W (Frag ksFn ks_superIn ks_loadName_global looks_mroIn looks_opaque looks_clsIn clsIn)
section
variable {CX : CXT} {P : Program} {w : World} {K : Frag} {mg : Str → Option Value} {base : Heap} {N : List Str} {F : NF} {f g C D cc : Addr} {A : Around} {outer : List Env} {s0 : Shared} {H0 : Hp} {E0 : XK} {m : Str}
/-- a def return super().m(e, ..) keeps its promise -/
theorem okS_ret {CX2 : CXT} {k : Nat} {fd2 : FuncData} {ps ps2 : List Str} {sp sp2 : Sp} {p0 p1 apos pos pst : Pos} {e : Expr} {es : List Expr}
    {oc : Value} {od : Option Addr} {doc pm : Value} {an : Option Addr} {ct : Value} {osl : Array (Option Value)}
    (T : SupTxt P K C D f g cc F m) (hf : K.lookup f = some ⟨oc, od, .func (ksFn F.name F.qual F.params F.body F.scope .none .none doc pm an (.ref F.c) ct cc), osl⟩)
    (S : NScope N ps ["__class__"] F.scope)
    (hbd : F.body = .Return (some (.Call (.Attribute (.Call (.Name "super" p0) [] [] p1) m apos) (e :: es) [] pos)) pst :: [])
    (ar : ∀ vs H Q E, sp vs H Q E → vs.length = ps.length) (hN : N[0]? = some ("self" : Str))
    (G : FnOk P w K mg base CX2 k g fd2 ps2 sp2) (hb2 : Binds K fd2 ps2 [])
    (hline : (apos.endLine == pos.line) = true)
    (hform : ∀ L, methodCallForm ((e :: es).length + ([] : List Keyword).length) (backTo pos (starEach (e :: es) (envF F f L))) (backToKw pos (keywordEach [] (envF F f L))) = true)
    (he : ∀ L, starEach (e :: es) (envF F f L) = (false, eval e (envF F f L)) :: starEach es (envF F f L))
    (hpl : ∀ L, (backTo pos (starEach es (envF F f L))).any (·.1) = false)
    (bd : ∀ (A : Around) (outer : List Env) (s : Shared) (H : Hp) (vs : List V) (Q : VK) (E : XK), Room k (A.deeper (envF F f s.heap.objs.size)) → sp vs H Q E →
      ∃ (x dx : Addr) (fs : List (Str × V)) (E2 : XK) (ta : TA), (startF N vs [some (.ref D)])[0]? = some (some (.ref x)) ∧ H x = some (.ins C dx fs) ∧ Passes CX2 (ncx CX P w K mg base N F f A outer s H E) E2 ∧
        PA (ncx CX P w K mg base N F f A outer s H E) (e :: es) ta ∧
        ta (startF N vs [some (.ref D)]) H fun ws H1 => sp2 (.ref x :: ws) H1 Q E2) :
    FnOk P w K mg base CX (k + 1) f (ksFn F.name F.qual F.params F.body F.scope .none .none doc pm an (.ref F.c) ct cc) ps sp := by
  refine ⟨ar, fun A outer s H args us vs Q E room env bind rel prem => ?_⟩
  have kin : K.In s.heap := env.mod.kin.keeps fun b o z => (env.bs b o z).1
  have nl : s.heap.NoLimit := env.mod.nolimit.keeps fun b o z => (env.bs b o z).1
  have long := ar _ _ _ _ prem
  obtain ⟨x, dx, fs, E2, ta, hσ, hx, hp, ha, q⟩ := bd A outer s H vs Q E (room.deeper _) prem
  have cells := cells_at T env
  have TT := T
  obtain ⟨nm, qual, params, body, scope, cl, c⟩ := F
  have hcl : cl = [(("__class__" : Str), cc)] := T.cl
  subst hcl
  refine ks_codeAny_call_defAt (binds := ps.zip us) room.depth (kin _ _ hf) rfl nl (PySem.W.codeRec_of kin T.code) rfl bind S.nocell (fun z hz => S.par z.1 (List.of_mem_zip hz).1) (fun h₁ hns k₁ => ?_) S.co S.gen S.kind
  have I : Inv (ncx CX P w K mg base N ⟨nm, qual, params, body, scope, [(("__class__" : Str), cc)], c⟩ f A outer s H E) [] (startF N vs [some (.ref D)]) H { s with heap := h₁, toks := s.toks + (ps.zip us).length } := inv_startN S room.hd env long rel cells hns k₁
  have hbd2 : body = .Return (some (.Call (.Attribute (.Call (.Name "super" p0) [] [] p1) m apos) (e :: es) [] pos)) pst :: [] := hbd
  subst hbd2
  generalize hF : (⟨nm, qual, params, .Return (some (.Call (.Attribute (.Call (.Name "super" p0) [] [] p1) m apos) (e :: es) [] pos)) pst :: [], scope, [(("__class__" : Str), cc)], c⟩ : NF) = F at *
  have W : _root_.PySem.wpAt (model P w) (ncx CX P w K mg base N F f A outer s H E).A (.func F.body (envF F f s.heap.objs.size)) (execs F.body (envF F f s.heap.objs.size))
      (SP (ncx CX P w K mg base N F f A outer s H E) [] { nx := fun _ H' => Q .non H', rt := Q }) (ncx CX P w K mg base N F f A outer s H E).xe { s with heap := h₁, toks := s.toks + (ps.zip us).length } := by
    rw [hbd]
    apply ks_wpAt_execs_cons
    apply ks_wpAt_Return_some
    apply PySem.ks_wpAt_mono (eval_super (σ := startF N vs [some (.ref D)]) TT hline (hform _) I hN hσ hx G (room.deeper _) hb2 hp ha (he _) (hpl _) q)
    · intro v s1 hv
      obtain ⟨u, H1, I1, ru, q1⟩ := hv
      exact ⟨u, _, H1, I1, ru, q1⟩
    · exact fun _ _ z => z
  subst hF
  refine PySem.ks_wpAt_mono W (fun fl s' hs => ?_) fun _ _ z => z
  · cases fl with
    | ret u =>
      obtain ⟨v, σ2, H2, J, rv, qv⟩ := hs
      exact ⟨v, H2, J.os, J.bare, J.base, J.hok, rv, qv⟩
    | next =>
      obtain ⟨σ2, H2, J, qv⟩ := hs
      exact ⟨.non, H2, J.os, J.bare, J.base, J.hok, rfl, qv⟩
    | brk =>
      obtain ⟨_, _, _, qv⟩ := hs
      exact qv.elim
    | cont =>
      obtain ⟨_, _, _, qv⟩ := hs
      exact qv.elim
end
end Gs
set_option maxHeartbeats 1000000
namespace K46
open PySem PySem.Spec PyProof.Rows L2 Gd Gs
open NdefX (NScope nscope_by ncx startF NF)
open C8 (clsBody Met pe_mt pe_mt0)
theorem Tw.cutL {C t : Addr} {N : Addr → Prop} {H : Hp} {ow : List Nat} (w : Tw N H t C ow) : Tw (fun c => N c ∧ Ld H c) H t C ow := by
  obtain ⟨dx, o, d, n, fs, ns, e1, l1, l2, l3, nl, e2, e3, e4, lf, hl, a1, a2, a3, hin, inj, No, Nd, Nn⟩ := w.ex
  refine ⟨⟨dx, o, d, n, fs, ns, e1, l1, l2, l3, nl, e2, e3, e4, lf, hl, a1, a2, a3, fun i a ha => ?_, inj, ⟨No, .lst e2⟩, ⟨Nd, .lst e3⟩, ⟨Nn, .lst e4⟩⟩, w.low, w.few⟩
  obtain ⟨h1, b1, b2, b3, b4⟩ := hin i a ha
  exact ⟨h1, b1, b2, b3, b4, .lst h1⟩
theorem Lw.cutL {C t : Addr} {N : Addr → Prop} {H : Hp} {ow : List Nat} (l : Lw C N H t ow) : Lw C (fun c => N c ∧ Ld H c) H t ow := by
  obtain ⟨N1, N2, dx, q, fs, tw, e1, l1, lv, dis, i1, i2⟩ := l.ex
  obtain ⟨ls, h1, h2, h3, h4⟩ := lv.ex
  refine ⟨_, (fun c => N2 c ∧ Ld H c), dx, q, fs, tw.cutL, e1, l1, ⟨ls, h1, h2, ⟨h3, .lst h1⟩, fun i a ha => ?_⟩, fun c h1 h2 => dis c h1.1 h2.1, fun c h => ⟨i1 _ h.1, h.2⟩, fun c h => ⟨i2 _ h.1, h.2⟩⟩
  obtain ⟨a1, a2, ks, a3, a4⟩ := h4 i a ha
  exact ⟨⟨a1, .lst a3⟩, a2, ks, a3, a4⟩
theorem RowB.cutL {N : Addr → Prop} {H : Hp} {o C CL : Addr} {n : Nat} {ow pc ks : List Nat} {st : Int} {fs : List (Str × V)} (r : RowB N H o C CL n ow pc ks st fs) : RowB (fun c => N c ∧ Ld H c) H o C CL n ow pc ks st fs := by
  obtain ⟨dx, t, p, kk, Nt, e1, l1, l2, l3, l4, l5, nl, lf, lw, e2, e3, No, Nt', Np, Nk, sub, x1, x2, x3, x4, x6, x7⟩ := r.ex
  have et : Ld H t := by
    obtain ⟨dx, o, d, n, fs, e1, _⟩ := lw.tr.ex
    exact .ins e1
  exact ⟨⟨dx, t, p, kk, _, e1, l1, l2, l3, l4, l5, nl, lf, lw.cutL, e2, e3, ⟨No, .ins e1⟩, ⟨Nt', et⟩, ⟨Np, .lst e2⟩, ⟨Nk, .lst e3⟩, fun c h => ⟨sub c h.1, h.2⟩, fun h => x1 h.1, fun h => x2 h.1, fun h => x3 h.1, fun h => x4 h.1, x6, x7⟩, r.lp, r.sz, r.pl, r.kl, r.kr⟩
section
variable {P : Program} {w : World} {K : PySem.W.Frag} {mg : Str → Option Value} {base : Heap} {C CL : Addr}
theorem metImp {k : Nat} {m : Str} {sp sp' : Sp} (M : Met P w K mg base k C m sp []) (h : ∀ vs H Q E, sp' vs H Q E → sp vs H Q E) : Met P w K mg base k C m sp' [] := by
  obtain ⟨f, fd, ps, ds, cl, me, F, b, d⟩ := M.ex
  exact ⟨f, fd, ps, ds, cl, me, F.imp h, b, d⟩
theorem metMono {j k : Nat} {m : Str} {sp : Sp} (M : Met P w K mg base j C m sp []) (h : j ≤ k) : Met P w K mg base k C m sp [] := by
  obtain ⟨f, fd, ps, ds, cl, me, F, b, d⟩ := M.ex
  exact ⟨f, fd, ps, ds, cl, me, F.mono h, b, d⟩
def spInitA (C CL : Addr) : Sp := fun vs H Q _ => ∃ (o dx a : Addr) (ws : List Int), vs = [.ref o, .ref a] ∧ H o = some (.ins C dx []) ∧ (H a = some (.lst (ws.map V.int)) ∨ H a = some (.tup (ws.map V.int))) ∧ 1 ≤ ws.length ∧ ws.length ≤ 16 ∧ (∀ x, x ∈ ws → -big30 ≤ x ∧ x ≤ big30) ∧
  ∀ (H' : Hp) (N' : Addr → Prop), RowA N' H' o C CL ws [] [] [] [0] [0] 0 → (∀ c u, c ≠ o → H c = some u → H' c = some u) → (∀ c, N' c → c = o ∨ H c = none) → Q .non H'
theorem init_imp {vs : List V} {H : Hp} {Q : VK} {E : XK} (h : spInitA C CL vs H Q E) : spRInit (spBegin C) C CL vs H Q E := by
  obtain ⟨o, dx, a, ws, rfl, e1, hor, h1, h2, hw, q⟩ := h
  refine ⟨o, dx, a, ws, rfl, e1, hor, h1, h2, hw, fun l H' N' fs rb p5 nlb el hl ol nN k f Q2 E2 hQ => ?_⟩
  have rb := rb.cutL
  obtain ⟨dx', e', nl'⟩ := rb.ins
  refine ⟨o, l, dx', fs, ws, rfl, e', el, by omega, h2, fun r d H2 Ne eo x xf k2 => hQ _ _ (q H2 (fun c => (N' c ∧ Ld H' c) ∨ Ne c) ⟨⟨_, Ne, _, (rb.put (f := "_order") (v := .ref r) (H' := upd H' o (.ins C dx' (putF "_order" (.ref r) fs))) (by decide) (by decide) (by omega) upd_same (fun c u hc _ z => by rw [upd_ne hc]; exact z)).put (f := "_boxes") (by decide) (by decide) (Nat.lt_of_le_of_lt (length_putF _ _ _) (by omega)) eo (fun c u hc _ z => by rw [upd_ne hc] at z; exact k2 c u hc z), x, fun c h => .inl h, fun c h => .inr h, fun c h1 h2 => (f c h1.1).2 (xf c h2).1⟩, rfl, fun c h => ?_⟩ (fun c u hc z => k2 _ _ hc (k _ _ hc z)) fun c h => ?_)⟩
  · rcases h with h | h
    · by_cases z : c = o
      · rw [z]
        exact .ins eo
      · exact h.2.kp fun u y => k2 c u z y
    · exact (xf c h).2
  · rcases h with h | h
    · exact (f c h.1).1
    · right
      cases z : H c with
      | none => rfl
      | some u =>
        by_cases y : c = o
        · have := (xf c h).1
          rw [y, e'] at this
          cases this
        · have := (xf c h).1
          rw [k c u y z] at this
          cases this
end
end K46
namespace K46
open PySem PySem.Spec PyProof.Rows L2 Gd
open C8 (clsBody Met pe_mt pe_mt0)
/-- a dict comprehension over what walks -/
theorem dc_it {J : It} {n : Nat} {G : Hp → Prop} {Y : Nat → Hp → V → Hp → Prop} (w : Walk J n G Y) {g : TG} {tt : TT} {tk tv : TE} {vs : List Nat} {σ : L2.St} {H1 : Hp} {D : Addr} {Qd : Hp → Prop} (Pv : Nat → Hp → Prop) (h0 : Pv 0 (upd H1 D (.dK []))) (hG : ∀ i H, i ≤ n → Pv i H → G H)
    (hs : ∀ i x H H', i < n → Pv i H → Y i H x H' → g x (wipe σ vs) H' fun σ2 H2 => wipe σ2 vs = wipe σ vs ∧ tt σ2 H2 fun b H3 =>
      if b = true then tk σ2 H3 fun y H4 => tv σ2 H4 fun z H5 => ∃ kvs k, y = kV k ∧ H5 D = some (.dK kvs) ∧ kvs.length < sizeLine ∧ Pv (i + 1) (upd H5 D (.dK (putK kvs k z))) else Pv (i + 1) H3) (hd : ∀ H, Pv n H → Qd H) :
    ∃ W : Nat → Nat → Hp → Prop, (∃ m, W 0 m (upd H1 D (.dK []))) ∧ ∀ i m H, W i m H →
      (J.stop i H ∧ Qd H) ∨ (J.go i H ∧ ∃ Nx : Hp → Prop, (∀ H', Nx H' → ∃ m', m' < m ∧ W (i + 1) m' H') ∧ ∀ x H', J.yld i H x H' → g x (wipe σ vs) H' fun σ2 H2 => wipe σ2 vs = wipe σ vs ∧ tt σ2 H2 fun b H3 =>
        if b = true then tk σ2 H3 fun y H4 => tv σ2 H4 fun z H5 => ∃ kvs k, y = kV k ∧ H5 D = some (.dK kvs) ∧ kvs.length < sizeLine ∧ Nx (upd H5 D (.dK (putK kvs k z))) else Nx H3) := by
  refine ⟨fun i m H => m = n - i ∧ i ≤ n ∧ Pv i H, ⟨n, by simp, Nat.zero_le _, h0⟩, ?_⟩
  rintro i m H ⟨rfl, hi, p⟩
  have q := hG i H hi p
  by_cases hlt : i < n
  · exact .inr ⟨w.goes i H hlt q, Pv (i + 1), fun H' p' => ⟨n - (i + 1), by omega, rfl, hlt, p'⟩, fun x H' y => hs i x H H' hlt p (w.yields i H x H' hlt q y)⟩
  · have e : i = n := by omega
    subst e
    exact .inl ⟨w.stops H q, hd H p⟩
/-- where each make stands in the order -/
structure StD (kvs : List (Key × V)) (od : List Nat) (n : Nat) : Prop where
  len : kvs.length ≤ n
  at_ : ∀ (m : Nat) (k : Nat), m < n → od[m]? = some k → valV kvs (Sum.inl (k : Int)) = some (num m)
theorem StD.put {kvs : List (Key × V)} {od : List Nat} {n k : Nat} (h : StD kvs od n) (nd : od.Nodup) (hk : od[n]? = some k) : StD (putK kvs (Sum.inl ((k : Nat) : Int)) (num n)) od (n + 1) := by
  refine ⟨by have := length_putK kvs (Sum.inl ((k : Nat) : Int) : Key) (num n); have := h.len; omega, fun m k' hm hk' => ?_⟩
  rw [valV_put]
  by_cases z : m = n
  · subst z
    rw [hk] at hk'
    cases hk'
    rw [if_pos rfl]
  · rw [if_neg]
    · exact h.at_ m k' (by omega) hk'
    · intro e
      have e2 : k' = k := by
        have := Sum.inl.inj e
        omega
      subst e2
      have b1 := (List.getElem?_eq_some_iff.mp hk').1
      have b2 := (List.getElem?_eq_some_iff.mp hk).1
      exact z ((List.getElem?_inj b1 nd).mp (hk'.trans hk.symm))
theorem dgi {H : Hp} {a : Addr} {kvs : List (Key × V)} {k : Nat} {v : V} (e : H a = some (.dK kvs)) (h : valV kvs (Sum.inl ((k : Nat) : Int)) = some v) : DGet H a (num k) (some v) := h ▸ DGet.k (k := Sum.inl ((k : Nat) : Int)) e
theorem getD_at {od : List Nat} {n : Nat} (h : n < od.length) : od[n]? = some (od.getD n 0) := by
  rw [List.getD_eq_getElem?_getD, List.getElem?_eq_getElem h]
  rfl
section
variable {P : Program} {w : World} {K : PySem.W.Frag} {mg : Str → Option Value} {base : Heap} {C CL : Addr}
def looksB (ow pc od : List Nat) (j i : Nat) : Nat := hvN (pos (wrt ow pc j 64) od) (od.idxOf i)
def spFoundW (C CL : Addr) : Sp := fun vs H Q _ => ∃ (NB Ne : Addr → Prop) (o : Addr) (ws : List Int) (ow pc : List Nat) (vl : List Int) (ks od : List Nat) (wf : Nat → Nat → Nat) (st : Int) (fs : List (Str × V)) (i j : Nat), vs = [.ref o, num i, num j] ∧ RowB NB H o C CL ws.length ow pc ks st fs ∧ ExtW Ne H fs ws vl wf od ∧ (∀ c, NB c → ¬ Ne c) ∧ i ∈ od ∧ j < ws.length ∧ od.length ≤ 64 ∧
  ∀ (t : Addr) (b : Nat) (H' : Hp) (fs' : List (Str × V)), RowB NB H' o C CL ws.length ow pc ks (st + (hvN (pos (wf j) od) (od.idxOf i) : Nat)) fs' → ExtW Ne H' fs' ws vl wf od → H' t = some (.tup [num b, num (wf j i), .int (trip ws vl j (wf j) i).2.2]) → (∀ c u, c ≠ o → H c = some u → H' c = some u) → Q (.ref t) H'
theorem ok_found (T : Txt K mg) (OC : RowC K C) (c_found_by_halving : C8.Cal P w K mg base 1 "found_by_halving" spHalf []) (m_add_steps : Met P w K mg base 1 C "add_steps" (spAdd C CL) []) (M : MAt K C "_found" "Boxed._found" s_Boxed__found ["self", "make", "place"]) : Met P w K mg base 2 C "_found" (spFoundW C CL) [] := by
  refine M.met OC.cl sc_Boxed__found (fun vs H Q E h => ?_) (fun f cdv A outer s H vs Q E hr h => ?_)
  · obtain ⟨NB, Ne, o, ws, ow, pc, vl, ks, od, wf, st, fs, i, j, rfl, _⟩ := h
    rfl
  · obtain ⟨NB, Ne, o, ws, ow, pc, vl, ks, od, wf, st, fs, i, j, rfl, rb, xt, dj, hio, hj, hol, q⟩ := h
    obtain ⟨dx, e1, nl⟩ := rb.ins
    obtain ⟨rr, d, bs, l1, er, nr, l2, ed, nd, rd, odn, h1, h2, h3, h4, h5, h6⟩ := xt.ex
    have hix : od.idxOf i < od.length := List.idxOf_lt_length_of_mem hio
    have hii : od[od.idxOf i]? = some i := by
      rw [List.getElem?_eq_getElem hix, List.getElem_idxOf hix]
    obtain ⟨b, hb⟩ : ∃ b, bs[j]? = some b := ⟨bs[j], List.getElem?_eq_getElem (by omega)⟩
    obtain ⟨xs, eb, tx⟩ := h6 j b hb
    refine ⟨_, (pss_cons (ps_set (i := 4) sc_Boxed__found.nd rfl (Or.inr rfl) (pe_dc (own := [("at", 3), ("number", 7)]) (g := gTup K 2 (gCons (gName 3) (gCons (gName 7) gNil))) (tt := tYes) rfl sc_Boxed__found.nd (pi_enum (by rfl) T.b_enumerate (pa_cons (pe_fld (pv 0) rfl) pa_nil)) (blkOk_by (own := [("at", 3), ("number", 7)]) (N := ["self", "make", "place", "at", "stands", "box", "steps", "number", "turn"]) (sc := defScope s_Boxed__found) (by decide +kernel)) (fun _ _ _ _ _ => by exact (pg_tup (by rfl) (pgs_cons (pg_name (i := 3) sc_Boxed__found.nd rfl (Or.inl rfl)) (pgs_cons (pg_name (i := 7) sc_Boxed__found.nd rfl (Or.inl rfl)) pgs_nil)))) (fun _ _ _ _ _ => pts_nil) (fun _ _ _ _ _ => (pv 7)) (fun _ _ _ _ _ => (pv 3))))
      (pss_cons (ps_set (i := 5) sc_Boxed__found.nd rfl (Or.inl rfl) (pe_ix ix_list (pe_fld (pv 0) rfl) (pv 2) (fun _ _ => rfl)))
      (pss_cons (ps_asg (C8.pe_c c_found_by_halving hr (by decide) (by rfl) (pa_cons (pe_lc (own := [("turn", 8)]) (g := gName 8) (tt := tYes) rfl sc_Boxed__found.nd (pi_list (pv 5)) (blkOk_by (own := [("turn", 8)]) (N := ["self", "make", "place", "at", "stands", "box", "steps", "number", "turn"]) (sc := defScope s_Boxed__found) (by decide +kernel)) (fun _ _ _ _ _ => pg_name (i := 8) sc_Boxed__found.nd rfl (Or.inl rfl)) (fun _ _ _ _ _ => pts_nil) (fun _ _ _ _ _ => (pe_dget (hu_of hr) (pv 4) (pe_ix (show IxR _ (rIxT K) from ix_tup) (pv 8) pe_int (fun _ _ => rfl)) (fun _ _ => rfl)))) (pa_cons (pe_dget (hu_of hr) (pv 4) (pv 1) (fun _ _ => rfl)) pa_nil))) (pg_tup (by rfl) (pgs_cons (pg_name (i := 3) sc_Boxed__found.nd rfl (Or.inl rfl)) (pgs_cons (pg_name (i := 6) sc_Boxed__found.nd rfl (Or.inl rfl)) pgs_nil))))
      (pss_cons (ps_expr (pe_mt m_add_steps hr (by decide) (pv 0) (pa_cons (pv 6) pa_nil)))
      (pss_one (ps_ret (pe_ix ix_list (pv 5) (pv 3) (fun _ _ => rfl)))))))), ?_⟩
    refine ⟨_, rfl, o, C, dx, fs, .ref rr, rfl, e1, OC.cl, OC.n_order, l1, rr, _, rfl, SqL.of er, fun D hD => ?_⟩
    refine dc_it (walk_enum (xs := od.map num)) (fun n H' => Same H H' ∧ ∃ kvs, H' D = some (.dK kvs) ∧ StD kvs od n) ⟨same_new hD, [], upd_same, ⟨Nat.le_refl _, fun m k hm => absurd hm (by omega)⟩⟩ (fun n H' _ hP => SqL.of (hP.1 _ _ er)) (fun n v H2 H3 hk hP hY => ?_) (fun H2 hP => ?_)
    · obtain ⟨s2, kvs, d2, bd⟩ := hP
      obtain ⟨Tp, u, v', rfl, hT, rfl, hu, hv⟩ := hY
      replace hk : n < (od.map num).length := hk
      rw [List.length_map] at hk
      replace hu : some (V.int (n : Nat)) = some u := hu
      replace hv : (od.map num)[n]? = some v' := hv
      cases (Option.some.inj hu)
      rw [List.getElem?_map, getD_at hk] at hv
      cases (show some (num (od.getD n 0)) = some v' from hv)
      have d3 := kep (u := .tup [V.int (n : Nat), num (od.getD n 0)]) d2 hT
      have s3 : Same H (upd H2 Tp (.tup [V.int (n : Nat), num (od.getD n 0)])) := fun c z w => kep (s2 c z w) hT
      refine ⟨Tp, _, rfl, SqT.of upd_same, rfl, _, _, rfl, _, _, rfl, rfl, rfl, ?_⟩
      refine yesI ?_
      refine ⟨_, rfl, _, rfl, kvs, Sum.inl ((od.getD n 0 : Nat) : Int), rfl, d3, Nat.lt_of_le_of_lt bd.len (Nat.lt_of_lt_of_le (show n < 100 by omega) (by decide)), fun c u z => ?_, _, upd_same, bd.put odn (getD_at hk)⟩
      rw [upd_ne (ne_of_none z hD)]
      exact s3 _ _ z
    · obtain ⟨s2, kvs, d2, bd⟩ := hP
      rw [show (od.map num).length = od.length from List.length_map ..] at bd
      have pup := pos_up (wf j) od
      have plt : ∀ n (h : n < (pos (wf j) od).length), (pos (wf j) od)[n] < od.length := fun n h => (pos_mem.mp (List.getElem_mem h)).1
      have hrl : (rbox ws vl j (wf j) od).length = (pos (wf j) od).length := List.length_map _
      have hxl := tx.len
      have hpl : (pos (wf j) od).length ≤ od.length := by
        unfold pos
        refine Nat.le_trans (List.length_filter_le ..) ?_
        rw [List.length_range]
        exact Nat.le_refl _
      obtain ⟨_, hp1⟩ := pos_zero (wf := wf j) (show 0 < od.length by omega)
      obtain ⟨hf1, hf2⟩ := pos_found (wf := wf j) hix
      have hig : od.getD (od.idxOf i) 0 = i := by
        rw [List.getD_eq_getElem?_getD, hii]
        rfl
      rw [hig] at hf2
      refine ⟨_, rfl, o, C, dx, fs, .ref d, rfl, s2 _ _ e1, OC.cl, OC.n_boxes, l2, _, rfl, d, _, _, .ref b, rfl, rfl, SqL.of (s2 _ _ ed), atI_nat (by rw [List.getElem?_map, hb]; rfl), ?_⟩
      have eb2 := s2 _ _ eb
      have tx2 := tx.kp (KT.of s2)
      refine ⟨_, rfl, b, rfl, ⟨_, SqL.of eb2⟩, fun B hB => ?_⟩
      refine lc_it (walk_list (xs := xs)) (fun n H' => Same H2 H' ∧ H' B = some (.lst (((pos (wf j) od).take n).map num))) ⟨same_new hB, upd_same⟩ (fun n H' _ hP => SqL.of (hP.1 _ _ eb2)) (fun n v H3 H4 hn hP hY => ?_) (fun H3 hP => ?_)
      · obtain ⟨rfl, hv⟩ := hY
        obtain ⟨s3, eB⟩ := hP
        obtain ⟨c, t, hc, rfl, ht⟩ := tx2.get hv
        have hc' := hc
        unfold rbox at hc'
        rw [List.getElem?_map] at hc'
        obtain ⟨p, hp, rfl⟩ := Option.map_eq_some_iff.mp hc'
        have hpm := pos_mem.mp (List.mem_of_getElem? hp)
        refine ⟨rfl, yesI ?_⟩
        refine ⟨_, rfl, _, rfl, t, _, _, num (od.getD p 0), rfl, rfl, SqT.of (s3 _ _ ht), rfl, D, num p, rfl, dgi (s3 _ _ d2) (bd.at_ p _ hpm.1 (getD_at hpm.1)), _, eB, ?_, fun c u z => ?_, ?_⟩
        · rw [List.length_map, List.length_take]
          exact small1000 (by omega)
        · rw [upd_ne (ne_of_none z hB)]
          exact s3 _ _ z
        · rw [upd_same, List.take_add_one, hp, List.map_append]
          rfl
      · obtain ⟨s3, eB⟩ := hP
        rw [hxl, hrl, List.take_length] at eB
        refine ⟨_, rfl, _, rfl, D, num (od.idxOf i), rfl, dgi (s3 _ _ d2) (bd.at_ _ i hix hii), B, pos (wf j) od, od.idxOf i, rfl, eB, hp1, by omega, fun t H4 ht et s4 => ?_⟩
        refine ⟨t, _, rfl, SqT.of et, rfl, _, _, rfl, _, _, rfl, rfl, ?_⟩
        have s24 := (s2.trans s3).trans s4
        have r4 := rb.same s24
        refine ⟨_, rfl, o, dx, fs, rfl, s24 _ _ e1, nl _ (by decide), _, rfl, NB, o, ws.length, ow, pc, ks, st, fs, _, rfl, r4, fun H5 r5 k5 => ?_⟩
        have kt5 : KT H4 H5 := fun c ys z => k5 _ _ (fun e => by rw [e, s24 _ _ e1] at z; cases z) z
        have x5 := (xt.kp (fun c u _ z => s24 _ _ z) (KT.of s24)).kp (H' := H5) (fun c u hc z => k5 _ _ (fun e => dj o rb.own (e ▸ hc)) z) kt5
        have hl5 : (putF "_row_steps" (.int (st + (hvN (pos (wf j) od) (od.idxOf i) : Nat))) fs).lookup ("_boxes" : Str) = fs.lookup ("_boxes" : Str) := by rw [lookup_putF, if_neg (by decide)]
        have hl6 : (putF "_row_steps" (.int (st + (hvN (pos (wf j) od) (od.idxOf i) : Nat))) fs).lookup ("_order" : Str) = fs.lookup ("_order" : Str) := by rw [lookup_putF, if_neg (by decide)]
        have bo : b ≠ o := fun z => by rw [z, e1] at eb; cases eb
        obtain ⟨ct, hct, hcc⟩ := tx.at_ (hvB (pos (wf j) od) (od.idxOf i)) (trip ws vl j (wf j) (od.getD ((pos (wf j) od).getD (hvB (pos (wf j) od) (od.idxOf i)) 0) 0)) (by
          unfold rbox
          rw [List.getElem?_map, getD_at hf1]
          rfl)
        have cto : ct ≠ o := fun z => by rw [z, e1] at hcc; cases hcc
        refine ⟨_, rfl, _, rfl, b, _, _, .ref ct, rfl, rfl, SqL.of (k5 _ _ bo (s24 _ _ eb)), atI_nat hct, ?_⟩
        refine q ct (od.getD ((pos (wf j) od).getD (hvB (pos (wf j) od) (od.idxOf i)) 0) 0) H5 _ r5 (x5.fld hl5 hl6) ?_ fun c u hc z => k5 _ _ hc (s24 _ _ z)
        rw [k5 _ _ cto (s24 _ _ hcc)]
        unfold trip
        rw [hf2]
end
end K46
namespace K46
open PySem PySem.Spec PyProof.Rows L2 Gd
open C8 (clsBody Met pe_mt pe_mt0)
theorem up_lt {xs : List Nat} (h : xs.Pairwise (· < ·)) {i j : Nat} (hij : i < j) (hj : j < xs.length) : xs.getD i 0 < xs.getD j 0 := by
  rw [List.getD_eq_getElem?_getD, List.getD_eq_getElem?_getD, List.getElem?_eq_getElem (by omega : i < xs.length), List.getElem?_eq_getElem hj]
  exact List.pairwise_iff_getElem.mp h i j (by omega) hj hij
theorem up_len : ∀ {xs : List Nat} {n : Nat}, xs.Pairwise (· < ·) → (∀ x, x ∈ xs → x ≤ n) → xs.length ≤ n + 1 := by
  intro xs n h hl
  have g : ∀ i, i < xs.length → i ≤ xs.getD i 0 := fun i => by
    induction i with
    | zero => intro _; exact Nat.zero_le _
    | succ i ih =>
      intro hi
      have h1 := ih (by omega)
      have h2 := up_lt h (i := i) (j := i + 1) (by omega) hi
      omega
  by_cases z : xs.length = 0
  · omega
  · have h1 := g (xs.length - 1) (by omega)
    have h2 := hl (xs.getD (xs.length - 1) 0) (by
      rw [List.getD_eq_getElem?_getD, List.getElem?_eq_getElem (by omega : xs.length - 1 < xs.length)]
      exact List.getElem_mem _)
    omega
theorem up_eq : ∀ {xs ys : List Nat}, xs.Pairwise (· < ·) → ys.Pairwise (· < ·) → (∀ a, a ∈ xs ↔ a ∈ ys) → xs = ys
  | [], [], _, _, _ => rfl
  | [], y :: ys, _, _, h => absurd ((h y).mpr (List.mem_cons_self ..)) List.not_mem_nil
  | x :: xs, [], _, _, h => absurd ((h x).mp (List.mem_cons_self ..)) List.not_mem_nil
  | x :: xs, y :: ys, hx, hy, h => by
    obtain ⟨x1, x2⟩ := List.pairwise_cons.mp hx
    obtain ⟨y1, y2⟩ := List.pairwise_cons.mp hy
    have e : x = y := by
      have a1 := (h x).mp (List.mem_cons_self ..)
      have a2 := (h y).mpr (List.mem_cons_self ..)
      rcases List.mem_cons.mp a1 with a1 | a1
      · exact a1
      rcases List.mem_cons.mp a2 with a2 | a2
      · exact a2.symm
      have b1 := y1 x a1
      have b2 := x1 y a2
      omega
    subst e
    rw [up_eq x2 y2 fun a => ?_]
    constructor
    · intro ha
      rcases List.mem_cons.mp ((h a).mp (List.mem_cons_of_mem _ ha)) with z | z
      · have := x1 a ha
        omega
      · exact z
    · intro ha
      rcases List.mem_cons.mp ((h a).mpr (List.mem_cons_of_mem _ ha)) with z | z
      · have := y1 a ha
        omega
      · exact z
/-- how many turns are looked at, over a stretch -/
def looksN (ow pc od : List Nat) (i lo : Nat) : Nat → Nat
  | 0 => 0
  | k + 1 => looksN ow pc od i lo k + looksB ow pc od (lo + k) i
section
variable {P : Program} {w : World} {K : PySem.W.Frag} {mg : Str → Option Value} {base : Heap} {C CL : Addr}
def spFound (C CL : Addr) : Sp := fun vs H Q _ => ∃ (N : Addr → Prop) (o : Addr) (ws : List Int) (ow pc : List Nat) (vl : List Int) (ks od : List Nat) (st : Int) (i j : Nat), vs = [.ref o, num i, num j] ∧ RowA N H o C CL ws ow pc vl ks od st ∧ i ∈ ks ∧ j < ws.length ∧ ks.length ≤ 64 ∧
  ∀ (t : Addr) (b : Nat) (H' : Hp), RowA N H' o C CL ws ow pc vl ks od (st + (looksB ow pc od j i : Nat)) → H' t = some (.tup [num b, num (wrt ow pc j 64 i), .int (val ws ow pc vl j i)]) → (∀ c u, c ≠ o → H c = some u → H' c = some u) → Q (.ref t) H'
theorem found_imp {vs : List V} {H : Hp} {Q : VK} {E : XK} (h : spFound C CL vs H Q E) : spFoundW C CL vs H Q E := by
  obtain ⟨N, o, ws, ow, pc, vl, ks, od, st, i, j, rfl, r, hik, hj, h64, q⟩ := h
  obtain ⟨NB, Ne, fs, rb, xt, sb, se, dj⟩ := r.ex
  refine ⟨NB, Ne, o, ws, ow, pc, vl, ks, od, fun q => wrt ow pc q 64, st, fs, i, j, rfl, rb, xt.w, dj, xt.pm.mem_iff.mpr hik, hj, by rw [xt.pm.length_eq]; exact h64, fun t b H' fs' r' x' et k => q t b H' ⟨⟨NB, Ne, fs', r', ⟨x', xt.pm⟩, sb, se, dj⟩, r.lv, fun c h => ?_⟩ et k⟩
  by_cases y : c = o
  · obtain ⟨dx4, e4, _⟩ := r'.ins
    rw [y]
    exact .ins e4
  · exact (r.laid c h).kp fun u z => k _ _ y z
def spLook (C CL : Addr) : Sp := fun vs H Q _ => ∃ (N : Addr → Prop) (o : Addr) (ws : List Int) (ow pc : List Nat) (vl : List Int) (ks od : List Nat) (st : Int) (i j : Nat), vs = [.ref o, num i, num j] ∧ RowA N H o C CL ws ow pc vl ks od st ∧ i ≤ ow.length ∧ i ∈ ks ∧ j < ws.length ∧
  ∀ (H' : Hp), RowA N H' o C CL ws ow pc vl ks od (st + (looksB ow pc od j i : Nat)) → (∀ c u, c ≠ o → H c = some u → H' c = some u) → Q (.int (val ws ow pc vl j i)) H'
theorem ok_look (T : Txt K mg) (OC : RowC K C) (m__found : Met P w K mg base 2 C "_found" (spFound C CL) []) (M : MAt K C "looked" "Boxed.looked" s_Boxed_looked ["self", "make", "place"]) : Met P w K mg base 5 C "looked" (spLook C CL) [] := by
  refine M.met OC.cl sc_Boxed_looked (fun vs H Q E h => ?_) (fun f cdv A outer s H vs Q E hr h => ?_)
  · obtain ⟨N, o, ws, ow, pc, vl, ks, od, st, i, j, rfl, _⟩ := h
    rfl
  · obtain ⟨N, o, ws, ow, pc, vl, ks, od, st, i, j, rfl, r, hi, hik, hj, q⟩ := h
    obtain ⟨dx, fs, e1, nl⟩ := r.ins
    have few := r.fit.few
    have h64 : ks.length ≤ 64 := by
      obtain ⟨NB, fs, rb, _⟩ := r.b
      have := up_len rb.kr rb.kl
      omega
    refine ⟨_, (pss_one (ps_ret (pe_ix ix_tup (pe_mt m__found hr (by decide) (pv 0) (pa_cons (pv 1) (pa_cons (pv 2) pa_nil))) pe_int (fun _ _ => rfl)))), ?_⟩
    refine ⟨_, rfl, o, dx, fs, rfl, e1, nl _ (by decide), _, rfl, _, rfl, N, o, ws, ow, pc, vl, ks, od, st, i, j, rfl, r, hik, hj, h64, fun t b H' r' et k => ?_⟩
    exact ⟨t, _, _, _, rfl, rfl, SqT.of et, rfl, q H' r' k⟩
def spWin (C CL : Addr) : Sp := fun vs H Q _ => ∃ (N : Addr → Prop) (o : Addr) (ws : List Int) (ow pc : List Nat) (vl : List Int) (ks od : List Nat) (st : Int) (i lo hi : Nat), vs = [.ref o, num i, num lo, num hi] ∧ RowA N H o C CL ws ow pc vl ks od st ∧ i ≤ ow.length ∧ i ∈ ks ∧ lo ≤ hi ∧ hi ≤ ws.length ∧
  ∀ (a : Addr) (H' : Hp), H a = none → H' a = some (.lst ((List.range (hi - lo)).map fun k => V.int (val ws ow pc vl (lo + k) i))) → RowA N H' o C CL ws ow pc vl ks od (st + (looksN ow pc od i lo (hi - lo) : Nat)) → (∀ c u, c ≠ o → H c = some u → H' c = some u) → Q (.ref a) H'
theorem ok_win (T : Txt K mg) (OC : RowC K C) (m_looked : Met P w K mg base 5 C "looked" (spLook C CL) []) (M : MAt K C "worths_in" "Rows.worths_in" s_Rows_worths_in ["self", "make", "low", "high"]) : Met P w K mg base 6 C "worths_in" (spWin C CL) [] := by
  refine M.met OC.cl sc_Rows_worths_in (fun vs H Q E h => ?_) (fun f cdv A outer s H vs Q E hr h => ?_)
  · obtain ⟨N, o, ws, ow, pc, vl, ks, od, st, i, lo, hi, rfl, _⟩ := h
    rfl
  · obtain ⟨N, o, ws, ow, pc, vl, ks, od, st, i, lo, hi, rfl, r, hi', hik, h1, h2, q⟩ := h
    obtain ⟨dx, fs, e1, nl⟩ := r.ins
    have := r.fit.sz
    refine ⟨_, (pss_one (ps_ret (pe_lc (own := [("place", 4)]) (g := gName 4) (tt := tYes) rfl sc_Rows_worths_in.nd (pi_range2 rfl T.b_range (pa_cons (pv 2) (pa_cons (pv 3) pa_nil))) (blkOk_by (own := [("place", 4)]) (N := ["self", "make", "low", "high", "place"]) (sc := defScope s_Rows_worths_in) (by decide +kernel)) (fun _ _ _ _ _ => pg_name (i := 4) sc_Rows_worths_in.nd rfl (Or.inl rfl)) (fun _ _ _ _ _ => pts_nil) (fun _ _ _ _ _ => (pe_mt m_looked hr (by decide) (pv 0) (pa_cons (pv 1) (pa_cons (pv 4) pa_nil))))))), ?_⟩
    refine ⟨_, rfl, _, rfl, _, _, rfl, ⟨by omega, by omega, by omega, by omega⟩, fun B hB => ?_⟩
    have en : (((hi : Nat) : Int) - ((lo : Nat) : Int)).toNat = hi - lo := by omega
    rw [en]
    have oB : o ≠ B := ne_of_none e1 hB
    refine lc_it (walk_range (lo := ((lo : Nat) : Int)) (n := hi - lo)) (fun k H' => H' B = some (.lst ((List.range k).map fun k => V.int (val ws ow pc vl (lo + k) i))) ∧ RowA N H' o C CL ws ow pc vl ks od (st + (looksN ow pc od i lo k : Nat)) ∧ (∀ c u, c ≠ o → H c = some u → H' c = some u)) ⟨upd_same, by rw [show st + ((looksN ow pc od i lo 0 : Nat) : Int) = st from Int.add_zero _]; exact r.same (same_new hB), fun c u _ z => same_new hB _ _ z⟩ (fun k H' _ hP => trivial) (fun k v H5 H6 hk hP hY => ?_) (fun H5 hP => ?_)
    · obtain ⟨eB, r5, k5⟩ := hP
      obtain ⟨rfl, rfl⟩ := hY
      obtain ⟨dx5, fs5, e5, nl5⟩ := r5.ins
      refine ⟨rfl, yesI ?_⟩
      refine ⟨_, rfl, o, dx5, fs5, rfl, e5, nl5 _ (by decide), _, rfl, _, rfl, _, o, ws, ow, pc, vl, ks, od, _, i, lo + k, rfl, r5, hi', hik, by omega, fun H7 r7 k7 => ?_⟩
      rw [show st + ((looksN ow pc od i lo k : Nat) : Int) + ((looksB ow pc od (lo + k) i : Nat) : Int) = st + ((looksN ow pc od i lo (k + 1) : Nat) : Int) from by rw [Int.add_assoc]; rfl] at r7
      refine ⟨_, k7 _ _ oB.symm eB, ?_, ?_, r7.kp (fun c u hc z => ?_) (fun c ys z => ?_), fun c u hc z => ?_⟩
      · rw [List.length_map, List.length_range]
        exact Nat.lt_of_lt_of_le (show k < 1000 by omega) (Gd.line_le (by decide))
      · rw [upd_same, List.range_succ, List.map_append]
        rfl
      · rw [upd_ne (fun e => (r.laid c hc).ne (by rw [e]; exact hB))]
        exact z
      · rw [upd_ne (fun e => by rw [e, k7 _ _ oB.symm eB] at z; cases z)]
        exact z
      · rw [upd_ne (ne_of_none z hB)]
        exact k7 _ _ hc (k5 _ _ hc z)
    · obtain ⟨eB, r5, k5⟩ := hP
      exact q B H5 hB eB r5 k5
end
end K46
namespace K46
open PySem PySem.Spec PyProof.Rows L2 Gd Gs
open NdefX (NScope nscope_by ncx startF NF)
open C8 (clsBody Met pe_mt pe_mt0)
section
variable {P : Program} {w : World} {K : PySem.W.Frag} {mg : Str → Option Value} {base : Heap} {C CL : Addr}
def spAt (C CL : Addr) : Sp := fun vs H Q _ => ∃ (N : Addr → Prop) (o : Addr) (ws : List Int) (ow pc : List Nat) (vl : List Int) (ks od : List Nat) (st : Int) (i j : Nat), vs = [.ref o, num i, num j] ∧ RowA N H o C CL ws ow pc vl ks od st ∧ i ≤ ow.length ∧ i ∈ ks ∧ j < ws.length ∧
  ∀ (H' : Hp), RowA N H' o C CL ws ow pc vl ks od (st + (looksB ow pc od j i : Nat)) → (∀ c u, c ≠ o → H c = some u → H' c = some u) → Q (.int (val ws ow pc vl j i)) H'
theorem ok_at (T : Txt K mg) (OC : RowC K C) (m_need_make : Met P w K mg base 2 C "need_make" (spNeedMk C CL) []) (m_need_place : Met P w K mg base 2 C "need_place" (spNeedPl C CL) []) (m_worths_in : Met P w K mg base 6 C "worths_in" (spWin C CL) []) (M : MAt K C "at" "Rows.at" s_Rows_at ["self", "make", "place"]) : Met P w K mg base 7 C "at" (spAt C CL) [] := by
  refine M.met OC.cl sc_Rows_at (fun vs H Q E h => ?_) (fun f cdv A outer s H vs Q E hr h => ?_)
  · obtain ⟨N, o, ws, ow, pc, vl, ks, od, st, i, j, rfl, _⟩ := h
    rfl
  · obtain ⟨N, o, ws, ow, pc, vl, ks, od, st, i, j, rfl, r, hi, hk, hj, q⟩ := h
    obtain ⟨NB, fs, rb, sb⟩ := r.b
    obtain ⟨dx, e1, nl⟩ := rb.ins
    refine ⟨_, (pss_cons (ps_expr (pe_mt m_need_make hr (by decide) (pv 0) (pa_cons (pv 1) pa_nil)))
      (pss_cons (ps_expr (pe_mt m_need_place hr (by decide) (pv 0) (pa_cons (pv 2) pa_nil)))
      (pss_one (ps_ret (pe_ix ix_list (pe_mt m_worths_in hr (by decide) (pv 0) (pa_cons (pv 1) (pa_cons (pv 2) (pa_cons (pe_op op_add (pv 2) pe_int) pa_nil)))) pe_int (fun _ _ => rfl)))))), ?_⟩
    refine ⟨_, rfl, o, dx, fs, rfl, e1, nl _ (by decide), _, rfl, NB, o, ws.length, ow, pc, ks, st, fs, i, rfl, rb, hi, hk, ?_⟩
    refine ⟨_, rfl, o, dx, fs, rfl, e1, nl _ (by decide), _, rfl, NB, o, ws.length, ow, pc, ks, st, fs, j, rfl, rb, hj, ?_⟩
    refine ⟨_, rfl, o, dx, fs, rfl, e1, nl _ (by decide), _, rfl, _, rfl, _, rfl, _, _, rfl, rfl, N, o, ws, ow, pc, vl, ks, od, st, i, j, j + 1, rfl, r, hi, hk, by omega, by omega, fun a H1 ha ea r1 k1 => ?_⟩
    rw [Nat.add_sub_cancel_left] at ea r1
    rw [show looksN ow pc od i j 1 = looksB ow pc od j i from Nat.zero_add _] at r1
    exact ⟨a, _, _, _, rfl, rfl, SqL.of ea, rfl, q H1 r1 k1⟩
def rowV (ws : List Int) (ow pc : List Nat) (vl : List Int) (i : Nat) : List Int := (List.range ws.length).map fun k => val ws ow pc vl k i
def spRow (C CL : Addr) : Sp := fun vs H Q _ => ∃ (N : Addr → Prop) (o : Addr) (ws : List Int) (ow pc : List Nat) (vl : List Int) (ks od : List Nat) (st : Int) (i : Nat), vs = [.ref o, num i] ∧ RowA N H o C CL ws ow pc vl ks od st ∧ i ≤ ow.length ∧ i ∈ ks ∧
  ∀ (a : Addr) (H' : Hp), H a = none → H' a = some (.lst ((rowV ws ow pc vl i).map V.int)) → RowA N H' o C CL ws ow pc vl ks od (st + (looksN ow pc od i 0 ws.length : Nat)) → (∀ c u, c ≠ o → H c = some u → H' c = some u) → Q (.ref a) H'
theorem ok_row (T : Txt K mg) (OC : RowC K C) (m_need_make : Met P w K mg base 2 C "need_make" (spNeedMk C CL) []) (m_size : Met P w K mg base 1 C "size" (spSize C CL) []) (m_worths_in : Met P w K mg base 6 C "worths_in" (spWin C CL) []) (M : MAt K C "row" "Rows.row" s_Rows_row ["self", "make"]) : Met P w K mg base 7 C "row" (spRow C CL) [] := by
  refine M.met OC.cl sc_Rows_row (fun vs H Q E h => ?_) (fun f cdv A outer s H vs Q E hr h => ?_)
  · obtain ⟨N, o, ws, ow, pc, vl, ks, od, st, i, rfl, _⟩ := h
    rfl
  · obtain ⟨N, o, ws, ow, pc, vl, ks, od, st, i, rfl, r, hi, hk, q⟩ := h
    obtain ⟨NB, fs, rb, sb⟩ := r.b
    obtain ⟨dx, e1, nl⟩ := rb.ins
    refine ⟨_, (pss_cons (ps_expr (pe_mt m_need_make hr (by decide) (pv 0) (pa_cons (pv 1) pa_nil)))
      (pss_one (ps_ret (pe_callTy call_list_of (by rfl) T.t_list boot_list_ (pa_cons (pe_mt m_worths_in hr (by decide) (pv 0) (pa_cons (pv 1) (pa_cons pe_int (pa_cons (pe_mt0 m_size hr (by decide) (pv 0)) pa_nil)))) pa_nil))))), ?_⟩
    refine ⟨_, rfl, o, dx, fs, rfl, e1, nl _ (by decide), _, rfl, NB, o, ws.length, ow, pc, ks, st, fs, i, rfl, rb, hi, hk, ?_⟩
    refine ⟨_, rfl, o, dx, fs, rfl, e1, nl _ (by decide), _, rfl, _, rfl, o, dx, fs, rfl, e1, nl _ (by decide), NB, o, ws.length, ow, pc, ks, st, fs, rfl, rb, N, o, ws, ow, pc, vl, ks, od, st, i, 0, ws.length, rfl, r, hi, hk, Nat.zero_le _, Nat.le_refl _, fun a H1 ha ea r1 k1 => ?_⟩
    refine ⟨a, _, rfl, .inl (SqL.of ea), fun b hb => ?_⟩
    have s2 : Same H1 (upd H1 b (.lst ((List.range (ws.length - 0)).map fun k => V.int (val ws ow pc vl (0 + k) i)))) := same_new hb
    have hb0 : H b = none := by
      cases z : H b with
      | none => rfl
      | some u =>
        obtain ⟨dx1, fs1, f1, _⟩ := r1.ins
        have bo : b ≠ o := fun e => by rw [e, f1] at hb; cases hb
        rw [k1 _ _ bo z] at hb
        cases hb
    refine q b _ hb0 ?_ (r1.same s2) fun c u hc z => s2 _ _ (k1 _ _ hc z)
    rw [upd_same, Nat.sub_zero]
    unfold rowV
    rw [List.map_map]
    congr 2
    refine List.map_congr_left fun k _ => ?_
    rw [Nat.zero_add]
    rfl
def spStretch (C CL : Addr) : Sp := fun vs H Q _ => ∃ (N : Addr → Prop) (o : Addr) (ws : List Int) (ow pc : List Nat) (vl : List Int) (ks od : List Nat) (st : Int) (i lo hi : Nat), vs = [.ref o, num i, num lo, num hi] ∧ RowA N H o C CL ws ow pc vl ks od st ∧ i ≤ ow.length ∧ i ∈ ks ∧ lo < hi ∧ hi ≤ ws.length ∧
  ∀ (a : Addr) (H' : Hp), H a = none → H' a = some (.lst ((List.range (hi - lo)).map fun k => V.int (val ws ow pc vl (lo + k) i))) → RowA N H' o C CL ws ow pc vl ks od (st + (looksN ow pc od i lo (hi - lo) : Nat)) → (∀ c u, c ≠ o → H c = some u → H' c = some u) → Q (.ref a) H'
theorem ok_stretch (T : Txt K mg) (OC : RowC K C) (m_need_make : Met P w K mg base 2 C "need_make" (spNeedMk C CL) []) (m_need_stretch : Met P w K mg base 2 C "need_stretch" (spNeedSt C CL) []) (m_worths_in : Met P w K mg base 6 C "worths_in" (spWin C CL) []) (M : MAt K C "stretch" "Rows.stretch" s_Rows_stretch ["self", "make", "low", "high"]) : Met P w K mg base 7 C "stretch" (spStretch C CL) [] := by
  refine M.met OC.cl sc_Rows_stretch (fun vs H Q E h => ?_) (fun f cdv A outer s H vs Q E hr h => ?_)
  · obtain ⟨N, o, ws, ow, pc, vl, ks, od, st, i, lo, hi, rfl, _⟩ := h
    rfl
  · obtain ⟨N, o, ws, ow, pc, vl, ks, od, st, i, lo, hi, rfl, r, hi', hk, h1, h2, q⟩ := h
    obtain ⟨NB, fs, rb, sb⟩ := r.b
    obtain ⟨dx, e1, nl⟩ := rb.ins
    refine ⟨_, (pss_cons (ps_expr (pe_mt m_need_make hr (by decide) (pv 0) (pa_cons (pv 1) pa_nil)))
      (pss_cons (ps_expr (pe_mt m_need_stretch hr (by decide) (pv 0) (pa_cons (pv 2) (pa_cons (pv 3) pa_nil))))
      (pss_one (ps_ret (pe_callTy call_list_of (by rfl) T.t_list boot_list_ (pa_cons (pe_mt m_worths_in hr (by decide) (pv 0) (pa_cons (pv 1) (pa_cons (pv 2) (pa_cons (pv 3) pa_nil)))) pa_nil)))))), ?_⟩
    refine ⟨_, rfl, o, dx, fs, rfl, e1, nl _ (by decide), _, rfl, NB, o, ws.length, ow, pc, ks, st, fs, i, rfl, rb, hi', hk, ?_⟩
    refine ⟨_, rfl, o, dx, fs, rfl, e1, nl _ (by decide), _, rfl, _, rfl, NB, o, ws.length, ow, pc, ks, st, fs, lo, hi, rfl, rb, h1, h2, ?_⟩
    refine ⟨_, rfl, o, dx, fs, rfl, e1, nl _ (by decide), _, rfl, _, rfl, _, rfl, N, o, ws, ow, pc, vl, ks, od, st, i, lo, hi, rfl, r, hi', hk, by omega, h2, fun a H1 ha ea r1 k1 => ?_⟩
    refine ⟨a, _, rfl, .inl (SqL.of ea), fun p hp => ?_⟩
    have s2 := same_new (o := .lst ((List.range (hi - lo)).map fun k => V.int (val ws ow pc vl (lo + k) i))) hp
    refine q p _ ?_ upd_same (r1.same s2) fun c u hc z => s2 _ _ (k1 _ _ hc z)
    cases z : H p with
    | none => rfl
    | some u =>
      by_cases e : p = o
      · obtain ⟨dx1, fs1, e2, _⟩ := r1.ins
        rw [e, e2] at hp
        cases hp
      · rw [k1 _ _ e z] at hp
        cases hp
end
end K46
/-! name = {.. for ..} where the comprehension's name is a local of the function, too. -/
namespace Gq
open PySem PySem.Spec PyProof.Rows L2
section
variable {X : Cx}
theorem ps_setDc {i : Nat} {y : Str} {py : Pos} {kx vx tg iter : Expr} {ifs : List Expr} {scope : Scope} {own : List (Str × Nat)} {pos spos : Pos} {wi : TI} {g : TG} {tt : TT} {tk tv : TE} (hc : X.calm = true) (hN : X.N.Nodup) (hy : X.N[i]? = some y) (hyl : X.env.scope.names.lookup y = some .local)
    (hsw : swapsWith (.DictComp kx vx [⟨tg, iter, ifs, 0⟩] scope pos) (some (.Name y py)) spos.line X.env = pure true) (hi : PI X tg iter wi) (ok : BlkOk X.N X.env.scope scope own)
    (hg : ∀ (s : Shared) (H : Hp) (C : Addr) (cl : List (Str × Addr)) (fp : List Addr), PG (X.blk s H scope (compEnvC scope cl C X.env) fp) tg g) (ht : ∀ (s : Shared) (H : Hp) (C : Addr) (cl : List (Str × Addr)) (fp : List Addr), PTs (X.blk s H scope (compEnvC scope cl C X.env) fp) ifs tt)
    (hk : ∀ (s : Shared) (H : Hp) (C : Addr) (cl : List (Str × Addr)) (fp : List Addr), PE (X.blk s H scope (compEnvC scope cl C X.env) fp) kx tk)
    (he : ∀ (s : Shared) (H : Hp) (C : Addr) (cl : List (Str × Addr)) (fp : List Addr), PE (X.blk s H scope (compEnvC scope cl C X.env) fp) vx tv) (hs : ∀ x, foldedSetIterable iter X.env x = pure x := by intro _; rfl) :
    PS X (.Assign [.Name y py] (.DictComp kx vx [⟨tg, iter, ifs, 0⟩] scope pos) spos) (tAsg (tDc wi g tt tk tv (own.map (·.2))) (gName i)) := by
  refine ⟨fun pins s σ H D I h => ?_⟩
  rw [exec_Assign_Name_used _ _ _ _ hsw]
  refine wpAny_bind (wpAny_standAt (wpAny_bind ?_))
  show wpAny _ X.A (do let _ ← comprehension (.DictComp kx vx [⟨tg, iter, ifs, 0⟩] scope pos) scope X.env (firstIterPos [⟨tg, iter, ifs, 0⟩] pos) newDict false (eval iter X.env) (some (assign (.Name y py) X.env))) _ _ s
  have h : tDc wi g tt tk tv (own.map (·.2)) σ H (fun x H1 => gName i x σ H1 D.nx) := h
  refine wpAny_bind (thn (dc_core (Qf := fun _ s' => SP X pins D .next s') hc hN I hi ok hg ht hk he hs h fun L C s' m H' I' q hn f => ?_) fun _ s' hq => wpAny_pure (wpAny_pure hq))
  show wpAny _ _ (assign (.Name y py) X.env (.ref L)) _ _ _
  refine wpAny_assign_Name (store_ok2 (v := V.ref L) I' hN hy (.inl hyl) rfl (fun s2 I2 ⟨a, sb, ha⟩ => ?_) (.inr hyl))
  obtain ⟨f0, f1, f2, f3, f4, f5⟩ := f
  have haC : C ≠ a := by
    rcases ha with z | z
    · rw [z]; exact f1
    · exact fun e => f4 y a z e.symm
  refine ⟨m, hn.sameBut sb haC, fun h3 sb3 => ?_⟩
  exact ⟨_, H', I2.turned (t' := s2.toks) (fun b o hb e => (sb3.2 b hb).trans e) f0 f1 f3 f4 f5, q⟩
end
theorem sw_trueD {kx vx : Expr} {gs : List Comprehension} {scope : Scope} {pos py : Pos} {y : Str} {l : Nat} {env : Env} (hk : env.scope.kind = .function) (hy : env.scope.names.lookup y = some .local) (hl : (py.line == pos.line) = true)
    (ha : (scope.names.any fun (n, k) => n == y && (k == .local || k == .cell)) = false) : swapsWith (.DictComp kx vx gs scope pos) (some (.Name y py)) l env = pure true := by
  have ky : env.kindOf y = some .local := hy
  have hb : env.blockKind = .function := by unfold Env.blockKind; rw [hk]; rfl
  unfold swapsWith
  simp only [hb, ky, ha, Expr.pos, hl]
  rfl
end Gq
namespace K46
open PySem PySem.Spec PyProof.Rows L2 Gd
open C8 (clsBody Met pe_mt pe_mt0)
/-- the turns of a box by the makes that they begin at -/
structure BgD (kvs : List (Key × V)) (od ps : List Nat) (xs : List V) (n : Nat) : Prop where
  len : kvs.length ≤ n
  yes : ∀ (m p : Nat) (v : V), m < n → ps[m]? = some p → xs[m]? = some v → valV kvs (Sum.inl ((od.getD p 0 : Nat) : Int)) = some v
  no : ∀ (i : Nat), i < od.length → (∀ m, m < n → ps[m]? ≠ some i) → valV kvs (Sum.inl ((od.getD i 0 : Nat) : Int)) = none
theorem getD_inj {od : List Nat} (nd : od.Nodup) {a b : Nat} (ha : a < od.length) (hb : b < od.length) (e : od.getD a 0 = od.getD b 0) : a = b := by
  refine (List.getElem?_inj ha nd).mp ?_
  rw [getD_at ha, getD_at hb, e]
theorem BgD.put {kvs : List (Key × V)} {od ps : List Nat} {xs : List V} {n p : Nat} {v : V} (h : BgD kvs od ps xs n) (nd : od.Nodup) (pl : ∀ m p : Nat, ps[m]? = some p → p < od.length) (pn : ps.Nodup) (hp : ps[n]? = some p) (hv : xs[n]? = some v) : BgD (putK kvs (Sum.inl ((od.getD p 0 : Nat) : Int)) v) od ps xs (n + 1) := by
  refine ⟨by have := length_putK kvs (Sum.inl ((od.getD p 0 : Nat) : Int) : Key) v; have := h.len; omega, fun m p' v' hm hp' hv' => ?_, fun i hi hm => ?_⟩
  · rw [valV_put]
    by_cases z : m = n
    · subst z
      rw [hp] at hp'
      cases hp'
      rw [hv] at hv'
      cases hv'
      rw [if_pos rfl]
    · rw [if_neg]
      · exact h.yes m p' v' (by omega) hp' hv'
      · intro e
        have e2 : od.getD p' 0 = od.getD p 0 := by
          have := Sum.inl.inj e
          omega
        have e3 := getD_inj nd (pl _ _ hp') (pl _ _ hp) e2
        subst e3
        exact z ((List.getElem?_inj (List.getElem?_eq_some_iff.mp hp').1 pn).mp (hp'.trans hp.symm))
  · rw [valV_put, if_neg]
    · exact h.no i hi fun m h' => hm m (by omega)
    · intro e
      have e2 : od.getD i 0 = od.getD p 0 := by
        have := Sum.inl.inj e
        omega
      have e3 := getD_inj nd hi (pl _ _ hp) e2
      exact hm n (by omega) (e3 ▸ hp)
section
variable {P : Program} {w : World} {K : PySem.W.Frag} {mg : Str → Option Value} {base : Heap} {C CL : Addr}
def spEach (C CL : Addr) : Sp := fun vs H Q _ => ∃ (NB Ne : Addr → Prop) (o : Addr) (n : Nat) (ws : List Int) (ow pc : List Nat) (vl : List Int) (ks od : List Nat) (wf : Nat → Nat → Nat) (st : Int) (fs : List (Str × V)) (j : Nat), vs = [.ref o, num j] ∧ RowB NB H o C CL n ow pc ks st fs ∧ ExtW Ne H fs ws vl wf od ∧ j < ws.length ∧ od ≠ [] ∧ od.length ≤ 64 ∧
  ∀ (a : Addr) (H' : Hp) (xs : List V), H a = none → H' a = some (.lst xs) → T3X H' xs (od.map (trip ws vl j (wf j))) → Same H H' → Q (.ref a) H'
theorem ok_each (T : Txt K mg) (OC : RowC K C) (M : MAt K C "_turn_of_each" "Boxed._turn_of_each" s_Boxed__turn_of_each ["self", "place"]) : Met P w K mg base 1 C "_turn_of_each" (spEach C CL) [] := by
  refine M.met OC.cl sc_Boxed__turn_of_each (fun vs H Q E h => ?_) (fun f cdv A outer s H vs Q E hr h => ?_)
  · obtain ⟨NB, Ne, o, n, ws, ow, pc, vl, ks, od, wf, st, fs, j, rfl, _⟩ := h
    rfl
  · obtain ⟨NB, Ne, o, n, ws, ow, pc, vl, ks, od, wf, st, fs, j, rfl, rb, xt, hj, h0, h64, q⟩ := h
    obtain ⟨dx, e1, nl⟩ := rb.ins
    obtain ⟨rr, d, bs, l1, er, nr, l2, ed, nd, rd, odn, h1, h2, h3, h4, h5, h6⟩ := xt.ex
    obtain ⟨b, hb⟩ : ∃ b, bs[j]? = some b := ⟨bs[j], List.getElem?_eq_getElem (by omega)⟩
    obtain ⟨xs, eb, tx⟩ := h6 j b hb
    refine ⟨_, (pss_cons (ps_set (i := 2) sc_Boxed__turn_of_each.nd rfl (Or.inl rfl) (pe_ix ix_list (pe_fld (pv 0) rfl) (pv 1) (fun _ _ => rfl)))
      (pss_cons (Gq.ps_setDc (i := 4) (own := [("turn", 3)]) (g := gName 3) (tt := tYes) rfl sc_Boxed__turn_of_each.nd rfl rfl (Gq.sw_trueD rfl rfl rfl (by decide +kernel)) (pi_list (pv 2)) (blkOk_by (own := [("turn", 3)]) (N := ["self", "place", "box", "turn", "begins", "turns", "make"]) (sc := defScope s_Boxed__turn_of_each) (by decide +kernel)) (fun _ _ _ _ _ => pg_name (i := 3) sc_Boxed__turn_of_each.nd rfl (Or.inl rfl)) (fun _ _ _ _ _ => pts_nil) (fun _ _ _ _ _ => (pe_ix (show IxR _ (rIxT K) from ix_tup) (pv 3) pe_int (fun _ _ => rfl))) (fun _ _ _ _ _ => (pv 3)))
      (pss_cons (ps_set (i := 5) sc_Boxed__turn_of_each.nd rfl (Or.inl rfl) (pe_lst pa_nil))
      (pss_cons (ps_set (i := 3) sc_Boxed__turn_of_each.nd rfl (Or.inl rfl) (pe_ix ix_list (pv 2) pe_int (fun _ _ => rfl)))
      (pss_cons (ps_for PassesOwn.never rfl (pi_list (pe_fld (pv 0) rfl)) (pg_name (i := 6) sc_Boxed__turn_of_each.nd rfl (Or.inl rfl))
          (pss_cons (ps_set (i := 3) sc_Boxed__turn_of_each.nd rfl (Or.inl rfl) (pe_dget2 (hu_of hr) (pv 4) (pv 6) (pv 3) (by constructor <;> rfl)))
          (pss_one (ps_expr (pe_bm PySem.F.plainAttrs_list PySem.F.slot_list_append PySem.F.type_list_append mt_append (pv 5) (pa_cons (pe_tup (pa_cons (pv 6) (pa_cons (pe_ix ix_tup (pv 3) pe_int (fun _ _ => rfl)) (pa_cons (pe_ix ix_tup (pv 3) pe_int (fun _ _ => rfl)) pa_nil)))) pa_nil))))))
      (pss_one (ps_ret (pv 5)))))))), ?_⟩
    have hb2 : (bs.map V.ref)[j]? = some (.ref b) := by
      rw [List.getElem?_map, hb]
      rfl
    refine ⟨_, rfl, o, C, dx, fs, .ref d, rfl, e1, OC.cl, OC.n_boxes, l2, _, rfl, d, _, _, .ref b, rfl, rfl, SqL.of ed, atI_nat hb2, ?_⟩
    have odp : 0 < od.length := List.length_pos_iff.mpr h0
    have pl : ∀ m p : Nat, (pos (wf j) od)[m]? = some p → p < od.length := fun m p h => (pos_mem.mp (List.mem_of_getElem? h)).1
    have pnd : (pos (wf j) od).Nodup := (pos_up _ _).imp fun h => Nat.ne_of_lt h
    have hrl : (rbox ws vl j (wf j) od).length = (pos (wf j) od).length := List.length_map _
    have hxl := tx.len
    obtain ⟨hz0, hzl⟩ := pos_zero (wf := wf j) odp
    have hpl : (pos (wf j) od).length ≤ od.length := by
      unfold pos
      refine Nat.le_trans (List.length_filter_le ..) ?_
      rw [List.length_range]
      exact Nat.le_refl _
    -- the turn at the m-th beginning
    have txa : ∀ (m p : Nat) (t : Addr), (pos (wf j) od)[m]? = some p → xs[m]? = some (.ref t) → H t = some (.tup [num (od.getD p 0), num (wf j (od.getD p 0)), .int (trip ws vl j (wf j) (od.getD p 0)).2.2]) := fun m p t hp ht => by
      obtain ⟨t', t1, t2⟩ := tx.at_ m (trip ws vl j (wf j) (od.getD p 0)) (by
        unfold rbox
        rw [List.getElem?_map, hp]
        rfl)
      rw [ht] at t1
      cases t1
      exact t2
    refine ⟨_, rfl, b, rfl, ⟨_, SqL.of eb⟩, fun D hD => ?_⟩
    refine dc_it (walk_list (xs := xs)) (fun n H' => Same H H' ∧ ∃ kvs, H' D = some (.dK kvs) ∧ BgD kvs od (pos (wf j) od) xs n) ⟨same_new hD, [], upd_same, ⟨Nat.le_refl _, fun m p v hm => absurd hm (by omega), fun i _ _ => rfl⟩⟩ (fun n H' _ hP => SqL.of (hP.1 _ _ eb)) (fun n v H2 H3 hk hP hY => ?_) (fun H2 hP => ?_)
    · obtain ⟨rfl, hv⟩ := hY
      obtain ⟨s2, kvs, d2, bd⟩ := hP
      obtain ⟨c, t, hc, rfl, ht⟩ := tx.get hv
      have hn : n < (pos (wf j) od).length := by
        rw [← hrl]
        exact (List.getElem?_eq_some_iff.mp hc).1
      have hp : (pos (wf j) od)[n]? = some (pos (wf j) od)[n] := List.getElem?_eq_getElem hn
      have ht' := txa n _ t hp hv
      refine ⟨rfl, yesI ?_⟩
      refine ⟨_, rfl, t, _, _, num (od.getD (pos (wf j) od)[n] 0), rfl, rfl, SqT.of (s2 _ _ ht'), rfl, _, rfl, kvs, Sum.inl ((od.getD (pos (wf j) od)[n] 0 : Nat) : Int), rfl, d2, Nat.lt_of_le_of_lt bd.len (Nat.lt_of_lt_of_le (show n < 100 by omega) (by decide)), fun c u z => ?_, _, upd_same, bd.put odn pl pnd hp hv⟩
      rw [upd_ne (ne_of_none z hD)]
      exact s2 _ _ z
    · obtain ⟨s2, kvs, d2, bd⟩ := hP
      rw [show xs.length = (pos (wf j) od).length from hxl.trans hrl] at bd
      refine ⟨(by show 0 ≤ sizeLine; decide), fun L hL => ?_⟩
      have s3 := same_new (o := .lst []) hL
      have eL : (upd H2 L (.lst [])) L = some (.lst []) := upd_same
      have d3 := s3 _ _ d2
      generalize upd H2 L (.lst []) = H3 at *
      have s03 := s2.trans s3
      have hLH : H L = none := none_of' s2 hL
      obtain ⟨v0, hv0⟩ : ∃ v0, xs[0]? = some v0 := ⟨xs[0]'(by omega), List.getElem?_eq_getElem (by omega)⟩
      obtain ⟨c0, t0, _, rfl, ht0⟩ := tx.get hv0
      refine ⟨_, rfl, b, _, _, .ref t0, rfl, rfl, SqL.of (s03 _ _ eb), atI_nat (j := 0) hv0, ?_⟩
      refine ⟨_, rfl, o, C, dx, fs, .ref rr, rfl, s03 _ _ e1, OC.cl, OC.n_order, l1, rr, rfl, ⟨_, SqL.of (s03 _ _ er)⟩, ?_⟩
      have rL : rr ≠ L := ne_of_none er hLH
      have DL : D ≠ L := ne_of_none d2 hL
      refine for_list (K := K) (a := rr) (xs := od.map num) (fun n σ H' => ∃ (t : Addr) (c : T3) (y6 : Option V) (ys : List V), σ = [some (.ref o), some (num j), some (.ref b), some (.ref t), some (.ref D), some (.ref L), y6] ∧ H t = some (.tup [num c.1, num c.2.1, .int c.2.2]) ∧ (0 < n → c.2 = (trip ws vl j (wf j) (od.getD (n - 1) 0)).2) ∧ H' L = some (.lst ys) ∧ T3X H' ys ((od.take n).map (trip ws vl j (wf j))) ∧ (∀ c u, c ≠ L → H3 c = some u → H' c = some u))
        ⟨t0, c0, none, [], rfl, ht0, fun h => absurd h (by omega), eL, ⟨rfl, fun i c e => by cases e⟩, fun c u _ z => z⟩ (fun n σ H' _ hP => ?_) (fun n x σ H4 hnx hP => ?_) (fun σ H4 hP => ?_)
      · obtain ⟨_, _, _, _, _, _, _, _, _, k4⟩ := hP
        exact SqL.of (k4 _ _ rL (s03 _ _ er))
      · obtain ⟨t, c, y6, ys, rfl, ht, hcn, eL4, ty, k4⟩ := hP
        have hn : n < od.length := by
          have := (List.getElem?_eq_some_iff.mp hnx).1
          rw [List.length_map] at this
          exact this
        rw [List.getElem?_map, getD_at hn] at hnx
        cases (show some (num (od.getD n 0)) = some x from hnx)
        have kH : ∀ c u, H c = some u → H4 c = some u := fun c u z => k4 _ _ (ne_of_none z hLH) (s03 _ _ z)
        have d4 := k4 _ _ DL d3
        have yl := ty.len
        rw [List.length_map, List.length_take] at yl
        obtain ⟨vv, t', c', hval, hget, ht', hc'⟩ : ∃ (vv : Option V) (t' : Addr) (c' : T3), valV kvs (Sum.inl ((od.getD n 0 : Nat) : Int)) = vv ∧ vv.getD (.ref t) = .ref t' ∧ H t' = some (.tup [num c'.1, num c'.2.1, .int c'.2.2]) ∧ c'.2 = (trip ws vl j (wf j) (od.getD n 0)).2 := by
          by_cases hbn : beg (wf j) od n = true
          · have hm : n ∈ pos (wf j) od := pos_mem.mpr ⟨hn, hbn⟩
            obtain ⟨m, hm2⟩ := List.mem_iff_getElem?.mp hm
            have hml := (List.getElem?_eq_some_iff.mp hm2).1
            obtain ⟨v1, hv1⟩ : ∃ v1, xs[m]? = some v1 := ⟨xs[m]'(by omega), List.getElem?_eq_getElem (by omega)⟩
            obtain ⟨c1, t1, _, rfl, _⟩ := tx.get hv1
            exact ⟨_, t1, trip ws vl j (wf j) (od.getD n 0), bd.yes m n _ hml hm2 hv1, rfl, txa m n t1 hm2 hv1, rfl⟩
          · have hnb : beg (wf j) od n = false := by
              cases z : beg (wf j) od n with
              | false => rfl
              | true => exact absurd z hbn
            refine ⟨_, t, c, bd.no n hn fun m _ hm => hbn (pos_mem.mp (List.mem_of_getElem? hm)).2, rfl, ht, ?_⟩
            unfold beg at hnb
            rw [Bool.or_eq_false_iff] at hnb
            have n0 : n ≠ 0 := of_decide_eq_false hnb.1
            have hw : wf j (od.getD (n - 1) 0) = wf j (od.getD n 0) := Decidable.not_not.mp (of_decide_eq_false hnb.2)
            rw [hcn (by omega)]
            unfold trip
            rw [hw]
        refine ⟨_, rfl, D, rfl, .inl ⟨kvs, .inl d4⟩, _, rfl, _, rfl, vv, hval ▸ DGet.k (k := Sum.inl ((od.getD n 0 : Nat) : Int)) d4, ?_⟩
        rw [hget]
        refine ⟨_, rfl, .inl ⟨rfl, _, SqL.of eL4⟩, _, rfl, _, rfl, t', _, _, num c'.2.1, rfl, rfl, SqT.of (kH _ _ ht'), rfl, _, rfl, t', _, _, .int c'.2.2, rfl, rfl, SqT.of (kH _ _ ht'), rfl, (by show 3 ≤ sizeLine; decide), fun nt hnt => ?_⟩
        have s5 := same_new (o := .tup [num (od.getD n 0), num c'.2.1, .int c'.2.2]) hnt
        have ent : (upd H4 nt (.tup [num (od.getD n 0), num c'.2.1, .int c'.2.2])) nt = some (.tup [num (od.getD n 0), num c'.2.1, .int c'.2.2]) := upd_same
        have eL5 := s5 _ _ eL4
        have ntL : nt ≠ L := (ne_of_none eL4 hnt).symm
        generalize upd H4 nt (.tup [num (od.getD n 0), num c'.2.1, .int c'.2.2]) = H5 at *
        refine ⟨L, _, _, rfl, rfl, eL5, small1000 (by omega), t', c', _, ys ++ [.ref nt], rfl, ht', fun _ => hc', upd_same, ?_, fun c u hc z => ?_⟩
        · rw [List.take_add_one, getD_at hn, List.map_append]
          have kL : ∀ c u, c ≠ L → H5 c = some u → (upd H5 L (.lst (ys ++ [.ref nt]))) c = some u := fun c u hc z => by
            rw [upd_ne hc]
            exact z
          refine (ty.kp (KT.of s5)).snoc (c := trip ws vl j (wf j) (od.getD n 0)) (fun c zs z => kL _ _ (fun e => by rw [e, eL5] at z; cases z) z) (kL _ _ ntL ?_)
          rw [ent]
          show some (HO.tup [num (od.getD n 0), num c'.2.1, .int c'.2.2]) = _
          rw [hc']
          rfl
        · rw [upd_ne hc]
          exact s5 _ _ (k4 _ _ hc z)
      · obtain ⟨t, c, y6, ys, rfl, ht, hcn, eL4, ty, k4⟩ := hP
        rw [List.length_map, List.take_length] at ty
        exact ⟨_, rfl, q L H4 ys hLH eL4 ty fun c u z => k4 _ _ (ne_of_none z hLH) (s03 _ _ z)⟩
end
end K46
namespace K46
open PySem PySem.Spec PyProof.Rows L2 Gd
open C8 (clsBody Met pe_mt pe_mt0)
/-- the beginnings, one behind the other -/
def rnR (wf : Nat → Nat) : Option Nat → List Nat → List Nat
  | _, [] => []
  | p, k :: ks => if p = some (wf k) then rnR wf p ks else k :: rnR wf (some (wf k)) ks
def lastW (wf : Nat → Nat) (p : Option Nat) (xs : List Nat) : Option Nat := match xs.getLast? with
  | some k => some (wf k)
  | none => p
theorem lastW_cons (wf : Nat → Nat) (p : Option Nat) (k : Nat) (ks : List Nat) : lastW wf p (k :: ks) = lastW wf (some (wf k)) ks := by
  unfold lastW
  cases ks with
  | nil => rfl
  | cons a as =>
    rw [List.getLast?_cons_cons]
    have : ((a :: as).getLast?) = some ((a :: as).getLast (by simp)) := List.getLast?_eq_some_getLast (by simp)
    rw [this]
theorem rnR_app (wf : Nat → Nat) : ∀ (xs ys : List Nat) (p : Option Nat), rnR wf p (xs ++ ys) = rnR wf p xs ++ rnR wf (lastW wf p xs) ys
  | [], ys, p => rfl
  | k :: ks, ys, p => by
    rw [lastW_cons]
    show (if p = some (wf k) then rnR wf p (ks ++ ys) else k :: rnR wf (some (wf k)) (ks ++ ys)) = (if p = some (wf k) then rnR wf p ks else k :: rnR wf (some (wf k)) ks) ++ _
    by_cases h : p = some (wf k)
    · rw [if_pos h, if_pos h, ← h]
      exact rnR_app wf ks ys p
    · rw [if_neg h, if_neg h, rnR_app wf ks ys (some (wf k))]
      rfl
theorem pos_snoc (wf : Nat → Nat) (od : List Nat) (k : Nat) : pos wf (od ++ [k]) = pos wf od ++ if lastW wf none od = some (wf k) then [] else [od.length] := by
  unfold pos
  rw [List.length_append, show od.length + [k].length = od.length + 1 from rfl, List.range_succ, List.filter_append]
  have e1 : (List.range od.length).filter (beg wf (od ++ [k])) = (List.range od.length).filter (beg wf od) := by
    refine List.filter_congr fun i hi => ?_
    have hi := List.mem_range.mp hi
    unfold beg
    rw [getD_old (show i - 1 < od.length by omega), getD_old hi]
  rw [e1]
  congr 1
  have hl : (od ++ [k]).getD od.length 0 = k := getD_new
  cases od with
  | nil => rfl
  | cons a as =>
    have hla : (a :: as).getLast? = some ((a :: as).getD ((a :: as).length - 1) 0) := by
      rw [List.getLast?_eq_getElem?, getD_at (by show as.length + 1 - 1 < as.length + 1; omega)]
    have hb : beg wf (a :: as ++ [k]) (a :: as).length = decide (wf ((a :: as).getD ((a :: as).length - 1) 0) ≠ wf k) := by
      unfold beg
      rw [hl, getD_old (show (a :: as).length - 1 < (a :: as).length by show as.length + 1 - 1 < as.length + 1; omega)]
      rw [decide_eq_false (show ¬ (a :: as).length = 0 by simp), Bool.false_or]
    unfold lastW
    rw [hla]
    show List.filter _ [(a :: as).length] = if some (wf ((a :: as).getD ((a :: as).length - 1) 0)) = some (wf k) then [] else _
    by_cases h : wf ((a :: as).getD ((a :: as).length - 1) 0) = wf k
    · rw [if_pos (by rw [h]), List.filter_cons_of_neg (by rw [hb, h]; simp)]
      rfl
    · rw [if_neg (fun e => h (Option.some.inj e)), List.filter_cons_of_pos (by rw [hb]; exact decide_eq_true h)]
      rfl
theorem pos_rn (wf : Nat → Nat) (od : List Nat) : (pos wf od).map (fun i => od.getD i 0) = rnR wf none od := by
  have go : ∀ (r : List Nat), (pos wf r.reverse).map (fun i => r.reverse.getD i 0) = rnR wf none r.reverse := by
    intro r
    induction r with
    | nil => rfl
    | cons k ks ih =>
      rw [List.reverse_cons, pos_snoc, rnR_app, List.map_append]
      have e1 : (pos wf ks.reverse).map (fun i => (ks.reverse ++ [k]).getD i 0) = (pos wf ks.reverse).map (fun i => ks.reverse.getD i 0) := List.map_congr_left fun i hi => getD_old (pos_mem.mp hi).1
      rw [e1, ih]
      congr 1
      show _ = if lastW wf none ks.reverse = some (wf k) then [] else [k]
      split
      · rfl
      · show [(ks.reverse ++ [k]).getD ks.reverse.length 0] = [k]
        rw [getD_new]
  have := go od.reverse
  rw [List.reverse_reverse] at this
  exact this
theorem rbox_rn (ws vl : List Int) (q : Nat) (wf : Nat → Nat) (od : List Nat) : rbox ws vl q wf od = (rnR wf none od).map (trip ws vl q wf) := by
  rw [← pos_rn, List.map_map]
  rfl
theorem rnR_congr {wf wf' : Nat → Nat} : ∀ (xs : List Nat) (p : Option Nat), (∀ k, k ∈ xs → wf' k = wf k) → rnR wf' p xs = rnR wf p xs
  | [], _, _ => rfl
  | k :: ks, p, h => by
    have hk := h k (List.mem_cons_self ..)
    have ih := fun p => rnR_congr ks p fun k' hk' => h k' (List.mem_cons_of_mem _ hk')
    show (if p = some (wf' k) then _ else _) = (if p = some (wf k) then _ else _)
    rw [hk, ih, ih]
theorem rnR_mem {wf : Nat → Nat} : ∀ (xs : List Nat) (p : Option Nat) (k : Nat), k ∈ rnR wf p xs → k ∈ xs
  | [], _, _, h => h
  | x :: xs, p, k, h => by
    unfold rnR at h
    split at h
    · exact List.mem_cons_of_mem _ (rnR_mem xs _ k h)
    · rcases List.mem_cons.mp h with rfl | h
      · exact List.mem_cons_self ..
      · exact List.mem_cons_of_mem _ (rnR_mem xs _ k h)
/-- a make behind one of its own writer begins no run -/
theorem rbox_ins {ws vl vl' : List Int} {q i n : Nat} {wf wf' : Nat → Nat} {A B : List Nat} (hn : wf' n = wf i) (hA : ∀ k, k ∈ A ++ i :: B → wf' k = wf k) (hv : ∀ k, k ∈ A ++ i :: B → trip ws vl' q wf' k = trip ws vl q wf k) : rbox ws vl' q wf' (A ++ i :: n :: B) = rbox ws vl q wf (A ++ i :: B) := by
  have hi : wf' i = wf i := hA i (by simp)
  have e : rnR wf' none (A ++ i :: n :: B) = rnR wf none (A ++ i :: B) := by
    rw [rnR_app, rnR_app, rnR_congr A none fun k hk => hA k (by simp [hk])]
    have el : lastW wf' none A = lastW wf none A := by
      unfold lastW
      cases h : A.getLast? with
      | none => rfl
      | some k =>
        show some (wf' k) = some (wf k)
        rw [hA k (by simp [List.mem_of_getLast? h])]
    rw [el]
    congr 1
    have eB : rnR wf' (some (wf i)) (n :: B) = rnR wf (some (wf i)) B := by
      show (if some (wf i) = some (wf' n) then _ else _) = _
      rw [if_pos (by rw [hn])]
      exact rnR_congr B _ fun k hk => hA k (by simp [hk])
    show (if lastW wf none A = some (wf' i) then rnR wf' _ (n :: B) else i :: rnR wf' (some (wf' i)) (n :: B)) = (if lastW wf none A = some (wf i) then rnR wf _ B else i :: rnR wf (some (wf i)) B)
    rw [hi, eB]
    by_cases h : lastW wf none A = some (wf i)
    · rw [if_pos h, if_pos h, h]
      exact eB
    · rw [if_neg h, if_neg h]
  rw [rbox_rn, rbox_rn, e]
  exact List.map_congr_left fun k hk => hv k (rnR_mem _ _ k hk)
end K46
namespace K46
open PySem PySem.Spec PyProof.Rows L2 Gd
open C8 (clsBody Met pe_mt pe_mt0)
/-- the writers behind a put -/
def wfN (wf : Nat → Nat → Nat) (i j n : Nat) (q k : Nat) : Nat := if k = n then (if q = j then n else wf q i) else wf q k
def insO (od : List Nat) (i n : Nat) : List Nat := od.take (od.idxOf i + 1) ++ [n] ++ od.drop (od.idxOf i + 1)
theorem od_cut {od : List Nat} {i : Nat} (h : i ∈ od) : od.take (od.idxOf i + 1) = od.take (od.idxOf i) ++ [i] ∧ od = od.take (od.idxOf i) ++ i :: od.drop (od.idxOf i + 1) := by
  have hix : od.idxOf i < od.length := List.idxOf_lt_length_of_mem h
  have hg : od[od.idxOf i]? = some i := by rw [List.getElem?_eq_getElem hix, List.getElem_idxOf hix]
  have e1 : od.take (od.idxOf i + 1) = od.take (od.idxOf i) ++ [i] := by
    rw [List.take_add_one, hg]
    rfl
  refine ⟨e1, ?_⟩
  have := List.take_append_drop (od.idxOf i + 1) od
  rw [e1, List.append_assoc] at this
  exact this.symm
theorem insO_is {od : List Nat} {i : Nat} (n : Nat) (h : i ∈ od) : insO od i n = od.take (od.idxOf i) ++ i :: n :: od.drop (od.idxOf i + 1) := by
  unfold insO
  rw [(od_cut h).1, List.append_assoc, List.append_assoc]
  rfl
theorem insO_mem {od : List Nat} {i n k : Nat} : k ∈ insO od i n ↔ k = n ∨ k ∈ od := by
  unfold insO
  rw [List.mem_append, List.mem_append, List.mem_singleton]
  constructor
  · rintro ((h | h) | h)
    · exact .inr (List.mem_of_mem_take h)
    · exact .inl h
    · exact .inr (List.mem_of_mem_drop h)
  · rintro (h | h)
    · exact .inl (.inr h)
    · rw [← List.take_append_drop (od.idxOf i + 1) od] at h
      exact (List.mem_append.mp h).elim (fun h => .inl (.inl h)) .inr
theorem insO_perm (od : List Nat) (i n : Nat) : (insO od i n).Perm (od ++ [n]) := by
  unfold insO
  rw [List.append_assoc]
  refine (List.Perm.append_left _ List.perm_append_comm).trans ?_
  rw [← List.append_assoc, List.take_append_drop]
theorem T3X.ins {H H' : Hp} {xs : List V} {ts : List T3} (r : T3X H xs ts) (m : Nat) (k : KT H H') {t : Addr} {c : T3} (e : H' t = some (.tup [num c.1, num c.2.1, .int c.2.2])) : T3X H' (xs.take m ++ [.ref t] ++ xs.drop m) (ts.take m ++ [c] ++ ts.drop m) := by
  have app : ∀ {a b : List V} {u v : List T3}, T3X H' a u → T3X H' b v → T3X H' (a ++ b) (u ++ v) := fun {a b u v} h1 h2 => by
    refine ⟨by rw [List.length_append, List.length_append, h1.len, h2.len], fun i p h => ?_⟩
    by_cases hi : i < u.length
    · rw [List.getElem?_append_left hi] at h
      obtain ⟨t, t1, t2⟩ := h1.at_ i p h
      exact ⟨t, by rw [List.getElem?_append_left (by rw [h1.len]; exact hi)]; exact t1, t2⟩
    · rw [List.getElem?_append_right (by omega)] at h
      obtain ⟨t, t1, t2⟩ := h2.at_ _ p h
      exact ⟨t, by rw [List.getElem?_append_right (by rw [h1.len]; omega), h1.len]; exact t1, t2⟩
  have r' := r.kp k
  refine app (app ⟨by rw [List.length_take, List.length_take, r.len], fun i p h => ?_⟩ ⟨rfl, fun i p h => ?_⟩) ⟨by rw [List.length_drop, List.length_drop, r.len], fun i p h => ?_⟩
  · by_cases hm : i < m
    · rw [List.getElem?_take_of_lt hm] at h
      obtain ⟨t, t1, t2⟩ := r'.at_ i p h
      exact ⟨t, by rw [List.getElem?_take_of_lt hm]; exact t1, t2⟩
    · rw [List.getElem?_eq_none (by rw [List.length_take]; omega)] at h
      cases h
  · match i, h with
    | 0, h =>
      cases h
      exact ⟨t, rfl, e⟩
    | i + 1, h => simp at h
  · rw [List.getElem?_drop] at h
    obtain ⟨t, t1, t2⟩ := r'.at_ _ p h
    exact ⟨t, by rw [List.getElem?_drop]; exact t1, t2⟩
theorem nodup_set {p : Addr} : ∀ {l : List Addr} {n : Nat}, l.Nodup → p ∉ l → (l.set n p).Nodup
  | [], _, h, _ => h
  | x :: xs, 0, h, hp => List.nodup_cons.mpr ⟨fun z => hp (List.mem_cons_of_mem _ z), (List.nodup_cons.mp h).2⟩
  | x :: xs, n + 1, h, hp => by
    obtain ⟨h1, h2⟩ := List.nodup_cons.mp h
    refine List.nodup_cons.mpr ⟨fun z => ?_, nodup_set h2 fun z => hp (List.mem_cons_of_mem _ z)⟩
    rcases List.mem_or_eq_of_mem_set z with z | z
    · exact h1 z
    · exact hp (z ▸ List.mem_cons_self ..)
theorem eqv_num {a b : Nat} (h : a ≠ b) : eqV (num a) (num b) = false := by
  rw [eq_num]
  exact decide_eq_false (fun e => h (by first | exact e | exact e.symm | omega))
section
variable {P : Program} {w : World} {K : PySem.W.Frag} {mg : Str → Option Value} {base : Heap} {C CL : Addr}
def spStore (C CL : Addr) : Sp := fun vs H Q _ => ∃ (NB Ne : Addr → Prop) (o : Addr) (ws : List Int) (ow pc : List Nat) (vl : List Int) (ks od : List Nat) (wf : Nat → Nat → Nat) (st : Int) (fs : List (Str × V)) (i j n : Nat) (x : Int), vs = [.ref o, num i, num n, num j, .int x] ∧ RowB NB H o C CL ws.length ow pc ks st fs ∧ ExtW Ne H fs ws vl wf od ∧ (∀ c, NB c → ¬ Ne c) ∧ (∀ c, Ne c → Ld H c) ∧ (∀ c, NB c → Ld H c) ∧ i ∈ od ∧ n ∉ od ∧ j < ws.length ∧ od.length < 64 ∧ n = vl.length + 1 ∧ (∀ q k, k ∈ od → wf q k < n) ∧
  ∀ (H' : Hp) (fs' : List (Str × V)) (Ne' : Addr → Prop), RowB NB H' o C CL ws.length ow pc ks (st + (hvN (pos (wf j) od) (od.idxOf i) : Nat)) fs' → ExtW Ne' H' fs' ws (vl ++ [x]) (wfN wf i j n) (insO od i n) → (∀ c, NB c → ¬ Ne' c) → (∀ c, Ne' c → Ld H' c) → (∀ c, Ne' c → Ne c ∨ H c = none) → (∀ c u, c ≠ o → ¬ Ne c → H c = some u → H' c = some u) → Q .non H'
theorem ok_store (T : Txt K mg) (OC : RowC K C) (c__first_of_runs : C8.Cal P w K mg base 1 "_first_of_runs" spFirst []) (m__found : Met P w K mg base 2 C "_found" (spFoundW C CL) []) (m__turn_of_each : Met P w K mg base 1 C "_turn_of_each" (spEach C CL) []) (M : MAt K C "store" "Boxed.store" s_Boxed_store ["self", "make", "number", "place", "worth"]) : Met P w K mg base 3 C "store" (spStore C CL) [] := by
  refine M.met OC.cl sc_Boxed_store (fun vs H Q E h => ?_) (fun f cdv A outer s H vs Q E hr h => ?_)
  · obtain ⟨NB, Ne, o, ws, ow, pc, vl, ks, od, wf, st, fs, i, j, n, x, rfl, _⟩ := h
    rfl
  · obtain ⟨NB, Ne, o, ws, ow, pc, vl, ks, od, wf, st, fs, i, j, n, x, rfl, rb, xt, dj, ld, lb, hio, hno, hj, hol, hn, hw, q⟩ := h
    refine ⟨_, (pss_cons (ps_expr (pe_mt m__found hr (by decide) (pv 0) (pa_cons (pv 1) (pa_cons (pv 3) pa_nil))))
      (pss_cons (ps_set (i := 5) sc_Boxed_store.nd rfl (Or.inl rfl) (pe_mt m__turn_of_each hr (by decide) (pv 0) (pa_cons (pv 3) pa_nil)))
      (pss_cons (ps_set (i := 6) sc_Boxed_store.nd rfl (Or.inl rfl) (pe_op op_add (pe_bm PySem.F.plainAttrs_list PySem.F.slot_list_index PySem.F.type_list_index mt_index (pe_fld (pv 0) rfl) (pa_cons (pv 1) pa_nil)) pe_int))
      (pss_cons (ps_expr (pe_bm PySem.F.plainAttrs_list PySem.F.slot_list_insert PySem.F.type_list_insert mt_insert (pe_fld (pv 0) rfl) (pa_cons (pv 6) (pa_cons (pv 2) pa_nil))))
      (pss_cons (ps_expr (pe_bm PySem.F.plainAttrs_list PySem.F.slot_list_insert PySem.F.type_list_insert mt_insert (pv 5) (pa_cons (pv 6) (pa_cons (pe_tup (pa_cons (pv 2) (pa_cons (pv 2) (pa_cons (pv 4) pa_nil)))) pa_nil))))
      (pss_one (ps_asg (C8.pe_c c__first_of_runs hr (by decide) (by rfl) (pa_cons (pv 5) pa_nil)) (pg_sub (pe_fld (pv 0) rfl) (pv 3) set_list)))))))), ?_⟩
    obtain ⟨dx, e0, nl⟩ := rb.ins
    have odp : od ≠ [] := List.ne_nil_of_mem hio
    refine ⟨_, rfl, o, dx, fs, rfl, e0, nl _ (by decide), _, rfl, _, rfl, NB, Ne, o, ws, ow, pc, vl, ks, od, wf, st, fs, i, j, rfl, rb, xt, dj, hio, hj, by omega, fun t b' H1 fs1 r1 x1 et k1 => ?_⟩
    obtain ⟨dx1, e1, nl1⟩ := r1.ins
    refine ⟨_, rfl, o, dx1, fs1, rfl, e1, nl1 _ (by decide), _, rfl, NB, Ne, o, ws.length, ws, ow, pc, vl, ks, od, wf, _, fs1, j, rfl, r1, x1, hj, odp, by omega, fun a H2 xs ha ea tx s2 => ?_⟩
    obtain ⟨rr, d, bs, l1, er, nr, l2, ed, nd, rd, odn, h1, h2, h3, h4, h5, h6⟩ := (x1.kp (H' := H2) (fun c u _ z => s2 c u z) (KT.of s2)).ex
    have e2 := s2 _ _ e1
    have hix : od.idxOf i < od.length := List.idxOf_lt_length_of_mem hio
    have hg : od[od.idxOf i]? = some i := by rw [List.getElem?_eq_getElem hix, List.getElem_idxOf hix]
    have hlt : ∀ (m : Nat) (z' : V), m < od.idxOf i → (od.map num)[m]? = some z' → eqV z' (num i) = false := fun m z' hm hz => by
      rw [List.getElem?_map, getD_at (by omega)] at hz
      cases (show some (num (od.getD m 0)) = some z' from hz)
      refine eqv_num fun e => ?_
      have := getD_inj odn (a := m) (b := od.idxOf i) (by omega) hix (by
        rw [e, List.getD_eq_getElem?_getD, hg]
        rfl)
      omega
    refine ⟨_, rfl, o, C, dx1, fs1, .ref rr, rfl, e2, OC.cl, OC.n_order, l1, .inl ⟨rfl, _, SqL.of er⟩, _, rfl, rr, _, num i, od.idxOf i, num i, rfl, rfl, SqL.of er, rfl, flat_nums od, (by rw [List.getElem?_map, hg]; rfl), (by rw [eq_num]; exact decide_eq_true rfl), hlt, _, _, rfl, rfl, ?_⟩
    refine ⟨_, rfl, o, C, dx1, fs1, .ref rr, rfl, e2, OC.cl, OC.n_order, l1, .inl ⟨rfl, _, SqL.of er⟩, _, rfl, _, rfl, rr, _, ((od.idxOf i : Nat) : Int) + 1, num n, rfl, rfl, er, small1000 (by rw [List.length_map]; omega), by omega, by omega, ?_⟩
    rw [show (((od.idxOf i : Nat) : Int) + 1).toNat = od.idxOf i + 1 by omega]
    have hins : List.take (od.idxOf i + 1) (od.map num) ++ [num n] ++ List.drop (od.idxOf i + 1) (od.map num) = (insO od i n).map num := by
      unfold insO
      rw [List.map_append, List.map_append, List.map_take, List.map_drop]
      rfl
    rw [hins]
    have ld1 : ∀ c, Ne c → H1 c ≠ none := fun c h z => by
      obtain ⟨u, hu, _⟩ := ld c h
      rw [k1 c u (fun e => dj o rb.own (e ▸ h)) hu] at z
      cases z
    have neo : ∀ c, Ne c → c ≠ o := fun c h e => dj o rb.own (e ▸ h)
    have ar : a ≠ rr := fun e => ld1 rr nr (e ▸ ha)
    have k3 : ∀ c u, c ≠ rr → H2 c = some u → (upd H2 rr (.lst ((insO od i n).map num))) c = some u := fun c u hc z => by
      rw [upd_ne hc]
      exact z
    have er3 : (upd H2 rr (.lst ((insO od i n).map num))) rr = some (.lst ((insO od i n).map num)) := upd_same
    have kt3 : KT H2 (upd H2 rr (.lst ((insO od i n).map num))) := fun c ys z => k3 _ _ (fun e => by rw [e, er] at z; cases z) z
    generalize upd H2 rr (.lst ((insO od i n).map num)) = H3 at *
    have ea3 := k3 _ _ ar ea
    refine ⟨_, rfl, .inl ⟨rfl, _, SqL.of ea3⟩, _, rfl, _, rfl, _, rfl, _, rfl, (by show 3 ≤ sizeLine; decide), fun nt hnt => ?_⟩
    have s4 := same_new (o := .tup [num n, num n, .int x]) hnt
    have ent : (upd H3 nt (.tup [num n, num n, .int x])) nt = some (.tup [num n, num n, .int x]) := upd_same
    have ea4 := s4 _ _ ea3
    have nta : nt ≠ a := (ne_of_none ea3 hnt).symm
    generalize upd H3 nt (.tup [num n, num n, .int x]) = H4 at *
    have hxl := tx.len
    rw [List.length_map] at hxl
    refine ⟨a, _, ((od.idxOf i : Nat) : Int) + 1, .ref nt, rfl, rfl, ea4, small1000 (by omega), by omega, by omega, ?_⟩
    rw [show (((od.idxOf i : Nat) : Int) + 1).toNat = od.idxOf i + 1 by omega]
    have k5 : ∀ c u, c ≠ a → H4 c = some u → (upd H4 a (.lst (xs.take (od.idxOf i + 1) ++ [.ref nt] ++ xs.drop (od.idxOf i + 1)))) c = some u := fun c u hc z => by
      rw [upd_ne hc]
      exact z
    have ea5 : (upd H4 a (.lst (xs.take (od.idxOf i + 1) ++ [.ref nt] ++ xs.drop (od.idxOf i + 1)))) a = some (.lst (xs.take (od.idxOf i + 1) ++ [.ref nt] ++ xs.drop (od.idxOf i + 1))) := upd_same
    have kt5 : KT H4 (upd H4 a (.lst (xs.take (od.idxOf i + 1) ++ [.ref nt] ++ xs.drop (od.idxOf i + 1)))) := fun c ys z => k5 _ _ (fun e => by rw [e, ea4] at z; cases z) z
    generalize upd H4 a (.lst (xs.take (od.idxOf i + 1) ++ [.ref nt] ++ xs.drop (od.idxOf i + 1))) = H5 at *
    have kt25 : KT H2 H5 := fun c ys z => kt5 _ _ (s4 _ _ (kt3 _ _ z))
    have htr : ∀ q k, k ∈ od → trip ws (vl ++ [x]) q (wfN wf i j n q) k = trip ws vl q (wf q) k := fun q k hk => by
      have hkn : k ≠ n := fun e => hno (e ▸ hk)
      have hwk := hw q k hk
      unfold trip wfN
      rw [if_neg hkn]
      by_cases z : wf q k = 0
      · rw [if_pos z, if_pos z]
      · rw [if_neg z, if_neg z, getD_old (show wf q k - 1 < vl.length by omega)]
    have htn : trip ws (vl ++ [x]) j (wfN wf i j n j) n = (n, n, x) := by
      unfold trip wfN
      rw [if_pos rfl, if_pos rfl, if_neg (show n ≠ 0 by omega), show n - 1 = vl.length by omega, getD_new]
    have tx5 := tx.ins (od.idxOf i + 1) kt25 (t := nt) (c := (n, n, x)) (k5 _ _ nta ent)
    rw [show (od.map (trip ws vl j (wf j))).take (od.idxOf i + 1) ++ [(n, n, x)] ++ (od.map (trip ws vl j (wf j))).drop (od.idxOf i + 1) = (insO od i n).map (trip ws (vl ++ [x]) j (wfN wf i j n j)) from by
      have e := List.map_congr_left (f := trip ws vl j (wf j)) (g := trip ws (vl ++ [x]) j (wfN wf i j n j)) (l := od) fun k hk => (htr j k hk).symm
      rw [e]
      unfold insO
      rw [List.map_append, List.map_append, List.map_take, List.map_drop, List.map_cons, htn]
      rfl] at tx5
    have hil : (insO od i n).length = od.length + 1 := by
      rw [(insO_perm od i n).length_eq, List.length_append]
      rfl
    refine ⟨_, rfl, a, _, _, rfl, ea5, tx5, by rw [List.length_map]; omega, fun p H6 ys hp ep ty s6 => ?_⟩
    rw [first_trip] at ty
    have k26 : ∀ c u, c ≠ rr → c ≠ a → H2 c = some u → H6 c = some u := fun c u h1 h2 z => s6 _ _ (k5 _ _ h2 (s4 _ _ (k3 _ _ h1 z)))
    have kt26 : KT H2 H6 := fun c ys z => s6 _ _ (kt25 _ _ z)
    have nea : ∀ c, Ne c → c ≠ a := fun c h e => ld1 c h (e ▸ ha)
    have oa : o ≠ a := ne_of_none e1 ha
    have e6 := k26 o _ (fun e => neo rr nr e.symm) oa e2
    have ed6 := k26 d _ rd.symm (nea d nd) ed
    have hjb : ixN (bs.map V.ref).length ((j : Nat) : Int) = some j := by
      unfold ixN
      rw [List.length_map, if_pos (by omega), if_pos (by omega)]
      rfl
    refine ⟨_, rfl, o, C, dx1, fs1, .ref d, rfl, e6, OC.cl, OC.n_boxes, l2, _, rfl, d, _, _, j, rfl, rfl, ed6, hjb, ?_⟩
    have k7 : ∀ c u, c ≠ d → H6 c = some u → (upd H6 d (.lst ((bs.map V.ref).set j (.ref p)))) c = some u := fun c u hc z => by
      rw [upd_ne hc]
      exact z
    have ed7 : (upd H6 d (.lst ((bs.map V.ref).set j (.ref p)))) d = some (.lst ((bs.set j p).map V.ref)) := by
      rw [upd_same, List.map_set]
    have kt7 : KT H6 (upd H6 d (.lst ((bs.map V.ref).set j (.ref p)))) := fun c ys z => k7 _ _ (fun e => by rw [e, ed6] at z; cases z) z
    show Q .non (upd H6 d (.lst ((bs.map V.ref).set j (.ref p))))
    generalize upd H6 d (.lst ((bs.map V.ref).set j (.ref p))) = H7 at *
    have er5 : H5 rr = some (.lst ((insO od i n).map num)) := k5 _ _ ar.symm (s4 _ _ er3)
    have lay5 : ∀ c, Ne c → H5 c ≠ none := fun c h z => by
      by_cases e : c = rr
      · rw [e, er5] at z
        cases z
      · obtain ⟨u, hu⟩ := Option.ne_none_iff_exists'.mp (ld1 c h)
        rw [k5 _ _ (nea c h) (s4 _ _ (k3 _ _ e (s2 _ _ hu)))] at z
        cases z
    have np : ∀ c, Ne c → c ≠ p := fun c h e => lay5 c h (e ▸ hp)
    have odn2 : (insO od i n).Nodup := (insO_perm od i n).nodup_iff.mpr (List.nodup_append.mpr ⟨odn, List.pairwise_singleton _ _, fun x hx y hy e => hno (by rw [← List.mem_singleton.mp hy, ← e]; exact hx)⟩)
    have pbs : p ∉ bs := fun h => np p (h5 p h) rfl
    have ep7 : H7 p = some (.lst ys) := k7 _ _ (np d nd).symm ep
    have k17 : ∀ c u, c ≠ rr → c ≠ d → c ≠ a → H1 c = some u → H7 c = some u := fun c u h1 h2 h3 z => k7 _ _ h2 (k26 _ _ h1 h3 (s2 _ _ z))
    refine q H7 fs1 (fun c => Ne c ∨ c = p) (r1.kp fun c u hc z => k17 c u (fun e => dj c hc (e ▸ nr)) (fun e => dj c hc (e ▸ nd)) (ne_of_none z ha) z) ⟨rr, d, bs.set j p, l1, k7 _ _ rd (s6 _ _ er5), .inl nr, l2, ed7, .inl nd, rd, odn2, by rw [List.length_set]; exact h1, fun h => ?_, fun h => ?_, nodup_set h4 pbs, fun b hb => ?_, fun q' b hb => ?_⟩ (fun c h1 h2 => h2.elim (dj c h1) fun e => ?_) (fun c h => ?_) (fun c h => ?_) fun c u hc hne z => ?_
    · exact (List.mem_or_eq_of_mem_set h).elim h2 (np d nd)
    · exact (List.mem_or_eq_of_mem_set h).elim h3 (np rr nr)
    · exact (List.mem_or_eq_of_mem_set hb).imp (h5 b) id
    · by_cases hq : j = q'
      · subst hq
        rw [List.getElem?_set_self (by omega)] at hb
        cases hb
        exact ⟨ys, ep7, ty.kp kt7⟩
      · rw [List.getElem?_set_ne hq] at hb
        obtain ⟨zs, ez, tz⟩ := h6 q' b hb
        have hbm := List.mem_of_getElem? hb
        refine ⟨zs, k7 _ _ (fun e => h2 (e ▸ hbm)) (k26 _ _ (fun e => h3 (e ▸ hbm)) (nea b (h5 b hbm)) ez), ?_⟩
        have hc := (od_cut hio).2
        have e : rbox ws (vl ++ [x]) q' (wfN wf i j n q') (insO od i n) = rbox ws vl q' (wf q') od := by
          rw [insO_is n hio]
          conv => rhs; rw [hc]
          refine rbox_ins ?_ (fun k hk => ?_) fun k hk => ?_
          · unfold wfN
            rw [if_pos rfl, if_neg (fun e => hq e.symm)]
          · rw [← hc] at hk
            unfold wfN
            rw [if_neg (show ¬ k = n from fun e => hno (e ▸ hk))]
          · rw [← hc] at hk
            exact htr q' k hk
        rw [e]
        exact (tz.kp kt26).kp kt7
    · rw [e] at h1
      by_cases z3 : p = o
      · rw [z3, k5 _ _ oa (s4 _ _ (k3 _ _ (fun e => neo rr nr e.symm) e2))] at hp
        cases hp
      · obtain ⟨u, hu, _⟩ := lb p h1
        have z := k1 p u z3 hu
        rw [k5 _ _ (ne_of_none z ha) (s4 _ _ (k3 _ _ (fun e => dj p h1 (e ▸ nr)) (s2 _ _ z)))] at hp
        cases hp
    · rcases h with h | h
      · by_cases e1 : c = rr
        · rw [e1]
          exact .lst (k7 _ _ rd (s6 _ _ er5))
        · by_cases e2 : c = d
          · rw [e2]
            exact .lst ed7
          · exact (ld c h).kp fun u z => k17 c u e1 e2 (nea c h) (k1 _ _ (neo c h) z)
      · rw [h]
        exact .lst ep7
    · refine h.imp id fun e => ?_
      rw [e]
      cases y : H p with
      | none => rfl
      | some u =>
        exfalso
        by_cases z1 : p = rr
        · rw [z1, er5] at hp
          cases hp
        · by_cases z2 : p = a
          · rw [z2, ea5] at hp
            cases hp
          · by_cases z3 : p = o
            · rw [z3, k5 _ _ oa (s4 _ _ (k3 _ _ (fun e => z1 (z3.trans e)) e2))] at hp
              cases hp
            · rw [k5 _ _ z2 (s4 _ _ (k3 _ _ z1 (s2 _ _ (k1 _ _ z3 y))))] at hp
              cases hp
    · exact k17 c u (fun e => hne (e ▸ nr)) (fun e => hne (e ▸ nd)) (ne_of_none (k1 _ _ hc z) ha) (k1 _ _ hc z)
end
end K46
namespace K46
open PySem PySem.Spec PyProof.Rows L2 Gd
open C8 (clsBody Met pe_mt pe_mt0)
theorem rbox_congr {ws vl : List Int} {q : Nat} {wf wf' : Nat → Nat} {od : List Nat} (h : ∀ k, k ∈ od → wf' k = wf k) : rbox ws vl q wf' od = rbox ws vl q wf od := by
  rw [rbox_rn, rbox_rn, rnR_congr od none h]
  refine List.map_congr_left fun k hk => ?_
  unfold trip
  rw [h k (rnR_mem _ _ k hk)]
theorem ExtW.congr {Ne : Addr → Prop} {H : Hp} {fs : List (Str × V)} {ws vl : List Int} {wf wf' : Nat → Nat → Nat} {od : List Nat} (x : ExtW Ne H fs ws vl wf od) (h : ∀ q k, k ∈ od → wf' q k = wf q k) : ExtW Ne H fs ws vl wf' od := by
  obtain ⟨r, d, bs, l1, er, nr, l2, ed, nd, rd, pm, h1, h2, h3, h4, h5, h6⟩ := x.ex
  refine ⟨r, d, bs, l1, er, nr, l2, ed, nd, rd, pm, h1, h2, h3, h4, h5, fun q b hb => ?_⟩
  rw [rbox_congr (h q)]
  exact h6 q b hb
section
variable {P : Program} {w : World} {K : PySem.W.Frag} {mg : Str → Option Value} {base : Heap} {C CL : Addr}
def spRPutA (C CL : Addr) : Sp := fun vs H Q _ => ∃ (N : Addr → Prop) (o : Addr) (ws : List Int) (ow pc : List Nat) (vl : List Int) (ks od : List Nat) (st : Int) (i j : Nat) (x : Int), vs = [.ref o, num i, num j, .int x] ∧ RowA N H o C CL ws ow pc vl ks od st ∧ i ≤ ow.length ∧ i ∈ ks ∧ ow.length < 63 ∧ ks.length ≤ 100 ∧ j < ws.length ∧
  ∀ (H' : Hp) (N' : Addr → Prop), RowA N' H' o C CL ws (ow ++ [i]) (pc ++ [j]) (vl ++ [x]) (ks ++ [ow.length + 1]) (insO od i (ow.length + 1)) (st + (looksB ow pc od j i : Nat)) → (∀ c u, ¬ N c → H c = some u → H' c = some u) → (∀ c, N' c → N c ∨ H c = none) → Q (num (ow.length + 1)) H'
theorem rput_imp {vs : List V} {H : Hp} {Q : VK} {E : XK} (h : spRPutA C CL vs H Q E) : spRPut (spStore C CL) C CL vs H Q E := by
  obtain ⟨N, o, ws, ow, pc, vl, ks, od, st, i, j, x, rfl, r, hi, hik, hlt, hks, hj, q⟩ := h
  have ft := r.fit
  obtain ⟨NB, Ne, fs, rb, xt, s1, s2, dj⟩ := r.ex
  refine ⟨NB, o, ws.length, ow, pc, ks, st, fs, i, j, x, rfl, rb, hi, hlt, hks, hj, fun H1 N1 r1 k1 f1 Q2 E2 hQ => ?_⟩
  have r1 := r1.cutL
  have kt1 : KT H H1 := fun c ys z => k1 _ _ (fun h => by
    obtain ⟨u, e, n⟩ := r.laid c (s1 c h)
    rw [z] at e
    cases e
    exact n ys rfl) z
  have x1 := xt.kp (fun c u hc z => k1 c u (fun h => dj c h hc) z) kt1
  have n1e : ∀ c, (N1 c ∧ Ld H1 c) → ¬ Ne c := fun c h hn => (f1 c h.1).elim (fun z => dj c z hn) fun z => (r.laid c (s2 c hn)).ne z
  have ldN : ∀ c, Ne c → Ld H1 c := fun c h => (r.laid c (s2 c h)).kp fun u z => k1 c u (fun hb => dj c hb h) z
  have hkl := up_len rb.kr rb.kl
  have hol : od.length < 64 := by
    rw [xt.pm.length_eq]
    omega
  have hmem : ∀ k, k ∈ od → k ≤ ow.length := fun k hk => rb.kl k (xt.pm.mem_iff.mp hk)
  have lv := r.lv
  have hn1 : ow.length + 1 ∉ od := fun h => by
    have := hmem _ h
    omega
  refine ⟨_, Ne, o, ws, _, _, vl, _, od, (fun q => wrt ow pc q 64), st, fs, i, j, ow.length + 1, x, rfl, r1, x1.w, n1e, ldN, fun c h => h.2, xt.pm.mem_iff.mpr hik, hn1, hj, hol, by omega, fun q k hk => ?_, fun H2 fs2 Ne2 r2 x2 dj2 ld2 fr2 k2 => hQ _ _ ?_⟩
  · have := (wrt_fit ft.low pc q 64 k (by have := hmem k hk; omega)).1
    have := hmem k hk
    show wrt ow pc q 64 k < _
    omega
  · have r2 := r2.cutL
    refine q H2 (fun c => ((N1 c ∧ Ld H1 c) ∧ Ld H2 c) ∨ Ne2 c) ⟨⟨_, Ne2, fs2, r2, ⟨x2.congr fun q k hk => ?_, (insO_perm od i (ow.length + 1)).trans (xt.pm.append_right _)⟩, fun c h => .inl h, fun c h => .inr h, fun c h hn => dj2 c h.1 hn⟩, ?_, fun c h => ?_⟩ (fun c u hc z => ?_) fun c h => ?_
    · show wrt (ow ++ [i]) (pc ++ [j]) q 64 k = wfN (fun q => wrt ow pc q 64) i j (ow.length + 1) q k
      unfold wfN
      rcases insO_mem.mp hk with rfl | hk
      · rw [if_pos rfl, wrt_new ft.low ft.lp hi (by omega) q]
        by_cases z : j = q
        · rw [if_pos z, if_pos z.symm]
        · rw [if_neg z, if_neg (fun e => z e.symm)]
      · rw [if_neg (show ¬ k = ow.length + 1 from fun e => hn1 (e ▸ hk))]
        exact wrt_app ft.low ft.lp q 64 k (hmem k hk)
    · rw [List.length_append, List.length_append, lv]
      rfl
    · exact h.elim (fun h => h.2) (ld2 c)
    · have ho : c ≠ o := fun e => hc (e ▸ s1 _ rb.own)
      exact k2 c u ho (fun h => hc (s2 c h)) (k1 c u (fun h => hc (s1 c h)) z)
    · have up : ∀ c, H1 c = none → N c ∨ H c = none := fun c z => by
        by_cases hN : N c
        · exact .inl hN
        · right
          cases y : H c with
          | none => rfl
          | some u =>
            rw [k1 c u (fun h => hN (s1 c h)) y] at z
            cases z
      rcases h with h | h
      · exact (f1 c h.1.1).imp (s1 c) id
      · exact (fr2 c h).elim (fun h => .inl (s2 c h)) (up c)
end
end K46
namespace K46
open PySem PySem.Spec PyProof.Rows L2 Gd
open C8 (clsBody Met pe_mt pe_mt0)
section
variable {P : Program} {w : World} {K : PySem.W.Frag} {mg : Str → Option Value} {base : Heap} {C CL : Addr}
def spPut (C CL : Addr) : Sp := fun vs H Q _ => ∃ (N : Addr → Prop) (o : Addr) (ws : List Int) (ow pc : List Nat) (vl : List Int) (ks od : List Nat) (st : Int) (i j : Nat) (x : Int), vs = [.ref o, num i, num j, .int x] ∧ RowA N H o C CL ws ow pc vl ks od st ∧ i ≤ ow.length ∧ i ∈ ks ∧ ow.length < 63 ∧ ks.length ≤ 100 ∧ j < ws.length ∧ -big30 ≤ x ∧ x ≤ big30 ∧
  ∀ (H' : Hp) (N' : Addr → Prop), RowA N' H' o C CL ws (ow ++ [i]) (pc ++ [j]) (vl ++ [x]) (ks ++ [ow.length + 1]) (insO od i (ow.length + 1)) (st + (looksB ow pc od j i : Nat)) → (∀ c u, ¬ N c → H c = some u → H' c = some u) → (∀ c, N' c → N c ∨ H c = none) → Q (num (ow.length + 1)) H'
theorem ok_put (T : Txt K mg) (OC : RowC K C) (c_is_worth : C8.Cal P w K mg base 2 "is_worth" spWorth []) (m_need_make : Met P w K mg base 2 C "need_make" (spNeedMk C CL) []) (m_need_place : Met P w K mg base 2 C "need_place" (spNeedPl C CL) []) (m_need_new : Met P w K mg base 1 C "need_new" spNew []) (m__row_need_room_for : Met P w K mg base 2 C "_row_need_room_for" (spRoom C CL) []) (m__row_put : Met P w K mg base 21 C "_row_put" (spRPutA C CL) [])
    (M : MAt K C "put" "Rows.put" s_Rows_put ["self", "make", "place", "worth"]) : Met P w K mg base 22 C "put" (spPut C CL) [] := by
  refine M.met OC.cl sc_Rows_put (fun vs H Q E h => ?_) (fun f cdv A outer s H vs Q E hr h => ?_)
  · obtain ⟨N, o, ws, ow, pc, vl, ks, od, st, i, j, x, rfl, _⟩ := h
    rfl
  · obtain ⟨N, o, ws, ow, pc, vl, ks, od, st, i, j, x, rfl, r, hi, hk, hlt, hks, hj, b1, b2, q⟩ := h
    obtain ⟨NB, fs, rb, sb⟩ := r.b
    obtain ⟨dx, e1, nl⟩ := rb.ins
    refine ⟨_, (pss_cons (ps_expr (pe_mt m_need_make hr (by decide) (pv 0) (pa_cons (pv 1) pa_nil)))
      (pss_cons (ps_expr (pe_mt m_need_place hr (by decide) (pv 0) (pa_cons (pv 2) pa_nil)))
      (pss_cons (ps_if (pt_not (pt_val (C8.pe_c c_is_worth hr (by decide) (by rfl) (pa_cons (pv 3) pa_nil))))
          (pss_one ps_never) pss_nil)
      (pss_cons (ps_expr (pe_mt m_need_new hr (by decide) (pv 0) (pa_cons (pv 1) pa_nil)))
      (pss_cons (ps_expr (pe_mt m__row_need_room_for hr (by decide) (pv 0) (pa_cons pe_int pa_nil)))
      (pss_one (ps_ret (pe_mt m__row_put hr (by decide) (pv 0) (pa_cons (pv 1) (pa_cons (pv 2) (pa_cons (pv 3) pa_nil))))))))))), ?_⟩
    refine ⟨_, rfl, o, dx, fs, rfl, e1, nl _ (by decide), _, rfl, NB, o, ws.length, ow, pc, ks, st, fs, i, rfl, rb, hi, hk, ?_⟩
    refine ⟨_, rfl, o, dx, fs, rfl, e1, nl _ (by decide), _, rfl, NB, o, ws.length, ow, pc, ks, st, fs, j, rfl, rb, hj, ?_⟩
    refine ⟨_, rfl, x, rfl, b1, b2, _, rfl, iteF ?_⟩
    refine ⟨_, rfl, o, dx, fs, rfl, e1, nl _ (by decide), _, rfl, .ref o, num i, rfl, ?_⟩
    refine ⟨_, rfl, o, dx, fs, rfl, e1, nl _ (by decide), NB, o, ws.length, ow, pc, ks, st, fs, 1, rfl, rb, by omega, ?_⟩
    exact ⟨_, rfl, o, dx, fs, rfl, e1, nl _ (by decide), _, rfl, _, rfl, _, rfl, N, o, ws, ow, pc, vl, ks, od, st, i, j, x, rfl, r, hi, hk, hlt, hks, hj, q⟩
end
def os (n i k : Nat) : List Nat := (List.range k).map fun t => if t = 0 then i else n + t
/-- their numbers -/
def nums (n k : Nat) : List Nat := (List.range k).map fun t => n + 1 + t
/-- the make that the k-th is put on -/
def onM (n i k : Nat) : Nat := if k = 0 then i else n + k
theorem os_len (n i k : Nat) : (os n i k).length = k := by unfold os; rw [List.length_map, List.length_range]
theorem nums_len (n k : Nat) : (nums n k).length = k := by unfold nums; rw [List.length_map, List.length_range]
theorem os_succ (n i k : Nat) : os n i (k + 1) = os n i k ++ [onM n i k] := by
  unfold os onM
  rw [List.range_succ, List.map_append]
  rfl
theorem nums_succ (n k : Nat) : nums n (k + 1) = nums n k ++ [n + 1 + k] := by
  unfold nums
  rw [List.range_succ, List.map_append]
  rfl
theorem onM_succ (n i k : Nat) : onM n i (k + 1) = n + k + 1 := by
  unfold onM
  rw [if_neg (by omega)]
  omega
theorem nums_mem {n k x : Nat} (h : x ∈ nums n k) : n < x ∧ x ≤ n + k := by
  unfold nums at h
  obtain ⟨t, ht, rfl⟩ := List.mem_map.mp h
  have := List.mem_range.mp ht
  omega
theorem onM_mem {n i k : Nat} {ks : List Nat} (h : i ∈ ks) : onM n i k ∈ ks ++ nums n k := by
  unfold onM nums
  by_cases z : k = 0
  · rw [if_pos z]
    exact List.mem_append.mpr (.inl h)
  · rw [if_neg z]
    exact List.mem_append.mpr (.inr (List.mem_map.mpr ⟨k - 1, List.mem_range.mpr (by omega), by omega⟩))
theorem onM_le {n i k : Nat} (h : i ≤ n) : onM n i k ≤ n + k := by
  unfold onM
  split <;> omega
section
variable {P : Program} {w : World} {K : PySem.W.Frag} {mg : Str → Option Value} {base : Heap} {C CL : Addr}
def spCh : Sp := fun vs H Q _ => ∃ (t : Addr) (j n : Nat) (x : Int), vs = [.ref t, num n] ∧ H t = some (.tup [num j, .int x]) ∧ j < n ∧ -big30 ≤ x ∧ x ≤ big30 ∧ Q (.bl true) H
theorem ok_ch (T : Txt K mg) (c_is_whole : C8.Cal P w K mg base 1 "is_whole" spWhI []) (c_is_worth : C8.Cal P w K mg base 2 "is_worth" spWorth []) (D : DefAt K mg "_is_change" s__is_change ["thing", "size"]) : C8.Cal P w K mg base 3 "_is_change" spCh [] := by
  obtain ⟨f, fd, F, m, b⟩ := D.ex
  refine ⟨f, fd, _, [], F.ok sc__is_change (fun vs H Q E h => ?_) (fun cdv A outer s H vs Q E hr h => ?_), m, F.kp, b, .nil⟩
  · obtain ⟨t, j, n, x, rfl, _⟩ := h
    rfl
  · obtain ⟨t, j, n, x, rfl, ht, h1, h2, h3, q⟩ := h
    refine ⟨_, (pss_cons (ps_if (PW.pt (pw_or (pt_not (pt_val (pe_callB call_isi (by rfl) T.b_isinstance boot_isinstance_ (pa_cons (pv 0) (pa_cons (pe_bltn (v := .ty "tuple") (by rfl) T.t_tuple boot_tuple_ rfl) pa_nil))))) (pw_or1 (pt_cmpR op_ne (pe_callB call_len (by rfl) T.b_len boot_len_ (pa_cons (pv 0) pa_nil)) pe_int (nomark _)))))
          (pss_one (ps_ret pe_bl)) pss_nil)
      (pss_one (ps_ret (pe_and (C8.pe_c c_is_whole hr (by decide) (by rfl) (pa_cons (pe_ix ix_tup (pv 0) pe_int (fun _ _ => rfl)) (pa_cons pe_int (pa_cons (pe_op op_sub (pv 1) pe_int) pa_nil)))) (pe_one (C8.pe_c c_is_worth hr (by decide) (by rfl) (pa_cons (pe_ix ix_tup (pv 0) pe_int (fun _ _ => rfl)) pa_nil))))))), ?_⟩
    refine ⟨_, rfl, .ref t, .ty "tuple", _, .type "tuple", _, rfl, .ty _, tyT (SqT.of ht), kTup (.tuple []), _, rfl, iteF ?_⟩
    refine ⟨_, rfl, .ref t, _, rfl, .inr ⟨_, SqT.of ht, rfl⟩, rfl, _, rfl, iteF ?_⟩
    refine ⟨_, rfl, t, _, _, num j, rfl, rfl, SqT.of ht, rfl, _, rfl, _, _, rfl, rfl, (j : Nat), 0, (n : Nat) - 1, rfl, by omega, by omega, _, rfl, iteT ?_⟩
    exact ⟨_, rfl, t, _, _, .int x, rfl, rfl, SqT.of ht, rfl, x, rfl, h2, h3, q⟩
def spChs (tup : Bool) : Sp := fun vs H Q _ => ∃ (a : Addr) (xs : List V) (cs : List (Nat × Int)) (n : Nat), vs = [.ref a, num n] ∧ H a = some (if tup = true then .tup xs else .lst xs) ∧ ChX H xs cs ∧ cs.length ≤ 20 ∧ ChOk cs n ∧ ∀ H', Same H H' → Q (.bl true) H'
theorem ok_chs_false (T : Txt K mg) (c__is_change : C8.Cal P w K mg base 3 "_is_change" spCh []) (D : DefAt K mg "is_changes" s_is_changes ["thing", "size"]) : C8.Cal P w K mg base 4 "is_changes" (spChs false) [] := by
  obtain ⟨f, fd, F, m, b⟩ := D.ex
  refine ⟨f, fd, _, [], F.ok sc_is_changes (fun vs H Q E h => ?_) (fun cdv A outer s H vs Q E hr h => ?_), m, F.kp, b, .nil⟩
  · obtain ⟨a, xs, cs, n, rfl, _⟩ := h
    rfl
  · obtain ⟨a, xs, cs, n, rfl, ha, hx, h20, hok, q⟩ := h
    have hlen := hx.len
    refine ⟨_, (pss_cons (ps_if (PW.pt (pw_or (pt_not (pt_val (pe_callB call_isiT (by rfl) T.b_isinstance boot_isinstance_ (pa_cons (pv 0) (pa_cons (pe_tup (pa_cons (pe_bltn (v := .ty "list") (by rfl) T.t_list boot_list_ rfl) (pa_cons (pe_bltn (v := .ty "tuple") (by rfl) T.t_tuple boot_tuple_ rfl) pa_nil))) pa_nil))))) (pw_or1 (pt_cmpR op_gt (pe_callB call_len (by rfl) T.b_len boot_len_ (pa_cons (pv 0) pa_nil)) (pe_gi rfl T.g_MOST_CHANGES) (nomark _)))))
          (pss_one (ps_ret pe_bl)) pss_nil)
      (pss_one (ps_ret (pe_callB (cr_all rfl) (by rfl) T.b_all boot_all_ (pa_cons (pe_lc (own := [("change", 2)]) (g := gName 2) (tt := tYes) rfl sc_is_changes.nd (pi_list (pv 0)) (blkOk_by (own := [("change", 2)]) (N := ["thing", "size", "change"]) (sc := defScope s_is_changes) (by decide +kernel)) (fun _ _ _ _ _ => pg_name (i := 2) sc_is_changes.nd rfl (Or.inl rfl)) (fun _ _ _ _ _ => pts_nil) (fun _ _ _ _ _ => (C8.pe_c c__is_change hr (by decide) (by rfl) (pa_cons (pv 2) (pa_cons (pv 1) pa_nil))))) pa_nil))))), ?_⟩
    refine ⟨_, rfl, (by show 2 ≤ sizeLine; decide), fun p hp => ?_⟩
    have sm := same_new (o := .tup [.ty "list", .ty "tuple"]) hp
    have hp1 : (upd H p (.tup [.ty "list", .ty "tuple"])) p = some (.tup [.ty "list", .ty "tuple"]) := upd_same
    generalize upd H p (.tup [.ty "list", .ty "tuple"]) = H1 at *
    have a1 := sm _ _ ha
    refine ⟨_, p, _, _, _, true, rfl, hp1, .cons (.ty _) (.cons (.ty _) .nil), tyL (SqL.of a1), kSeq (.list []), _, rfl, iteF ?_⟩
    refine ⟨_, rfl, .ref a, _, rfl, .inl ⟨_, SqL.of a1, rfl⟩, _, _, rfl, rfl, _, rfl, ite2 (fun z => ?_) (fun _ => ?_)⟩
    · have := of_decide_eq_true z
      omega
    refine ⟨_, rfl, a, rfl, ⟨_, SqL.of a1⟩, fun D hD => ?_⟩
    refine lc_it (walk_list (xs := xs)) (fun i H' => Same H1 H' ∧ H' D = some (.lst (((cs.take i).map fun _ => true).map V.bl))) ⟨same_new hD, upd_same⟩ (fun i H' _ hP => SqL.of (hP.1 _ _ a1)) (fun i x H2 H3 hi hP hY => ?_) (fun H2 hP => ?_)
    · obtain ⟨s2, d2⟩ := hP
      obtain ⟨rfl, hxi⟩ := hY
      obtain ⟨c, t, hc, rfl, ht⟩ := hx.get hxi
      obtain ⟨b0, b1, b2⟩ := hok c (List.mem_of_getElem? hc)
      refine ⟨rfl, yesI ?_⟩
      refine ⟨_, rfl, _, rfl, t, c.1, n, c.2, rfl, s2 _ _ (sm _ _ ht), b0, b1, b2, _, d2, ?_, fun c u z => ?_, ?_⟩
      · rw [List.length_map, List.length_map, List.length_take]
        exact small1000 (by omega)
      · rw [upd_ne (ne_of_none z hD)]
        exact s2 _ _ z
      · rw [upd_same, List.take_add_one, hc]
        simp
    · obtain ⟨s2, d2⟩ := hP
      rw [hlen, List.take_length] at d2
      refine ⟨D, cs.map fun _ => true, rfl, SqL.of d2, ?_⟩
      rw [show (cs.map fun _ => true).all id = true from by simp]
      exact q H2 (sm.trans s2)
theorem ok_chs_true (T : Txt K mg) (c__is_change : C8.Cal P w K mg base 3 "_is_change" spCh []) (D : DefAt K mg "is_changes" s_is_changes ["thing", "size"]) : C8.Cal P w K mg base 4 "is_changes" (spChs true) [] := by
  obtain ⟨f, fd, F, m, b⟩ := D.ex
  refine ⟨f, fd, _, [], F.ok sc_is_changes (fun vs H Q E h => ?_) (fun cdv A outer s H vs Q E hr h => ?_), m, F.kp, b, .nil⟩
  · obtain ⟨a, xs, cs, n, rfl, _⟩ := h
    rfl
  · obtain ⟨a, xs, cs, n, rfl, ha, hx, h20, hok, q⟩ := h
    have hlen := hx.len
    refine ⟨_, (pss_cons (ps_if (PW.pt (pw_or (pt_not (pt_val (pe_callB call_isiT (by rfl) T.b_isinstance boot_isinstance_ (pa_cons (pv 0) (pa_cons (pe_tup (pa_cons (pe_bltn (v := .ty "list") (by rfl) T.t_list boot_list_ rfl) (pa_cons (pe_bltn (v := .ty "tuple") (by rfl) T.t_tuple boot_tuple_ rfl) pa_nil))) pa_nil))))) (pw_or1 (pt_cmpR op_gt (pe_callB call_len (by rfl) T.b_len boot_len_ (pa_cons (pv 0) pa_nil)) (pe_gi rfl T.g_MOST_CHANGES) (nomark _)))))
          (pss_one (ps_ret pe_bl)) pss_nil)
      (pss_one (ps_ret (pe_callB (cr_all rfl) (by rfl) T.b_all boot_all_ (pa_cons (pe_lc (own := [("change", 2)]) (g := gName 2) (tt := tYes) rfl sc_is_changes.nd (pi_tup (pv 0)) (blkOk_by (own := [("change", 2)]) (N := ["thing", "size", "change"]) (sc := defScope s_is_changes) (by decide +kernel)) (fun _ _ _ _ _ => pg_name (i := 2) sc_is_changes.nd rfl (Or.inl rfl)) (fun _ _ _ _ _ => pts_nil) (fun _ _ _ _ _ => (C8.pe_c c__is_change hr (by decide) (by rfl) (pa_cons (pv 2) (pa_cons (pv 1) pa_nil))))) pa_nil))))), ?_⟩
    refine ⟨_, rfl, (by show 2 ≤ sizeLine; decide), fun p hp => ?_⟩
    have sm := same_new (o := .tup [.ty "list", .ty "tuple"]) hp
    have hp1 : (upd H p (.tup [.ty "list", .ty "tuple"])) p = some (.tup [.ty "list", .ty "tuple"]) := upd_same
    generalize upd H p (.tup [.ty "list", .ty "tuple"]) = H1 at *
    have a1 := sm _ _ ha
    refine ⟨_, p, _, _, _, true, rfl, hp1, .cons (.ty _) (.cons (.ty _) .nil), tyT (SqT.of a1), kSeq (.tuple []), _, rfl, iteF ?_⟩
    refine ⟨_, rfl, .ref a, _, rfl, .inr ⟨_, SqT.of a1, rfl⟩, _, _, rfl, rfl, _, rfl, ite2 (fun z => ?_) (fun _ => ?_)⟩
    · have := of_decide_eq_true z
      omega
    refine ⟨_, rfl, a, rfl, ⟨_, SqT.of a1⟩, fun D hD => ?_⟩
    refine lc_it (walk_tup (xs := xs)) (fun i H' => Same H1 H' ∧ H' D = some (.lst (((cs.take i).map fun _ => true).map V.bl))) ⟨same_new hD, upd_same⟩ (fun i H' _ hP => SqT.of (hP.1 _ _ a1)) (fun i x H2 H3 hi hP hY => ?_) (fun H2 hP => ?_)
    · obtain ⟨s2, d2⟩ := hP
      obtain ⟨rfl, hxi⟩ := hY
      obtain ⟨c, t, hc, rfl, ht⟩ := hx.get hxi
      obtain ⟨b0, b1, b2⟩ := hok c (List.mem_of_getElem? hc)
      refine ⟨rfl, yesI ?_⟩
      refine ⟨_, rfl, _, rfl, t, c.1, n, c.2, rfl, s2 _ _ (sm _ _ ht), b0, b1, b2, _, d2, ?_, fun c u z => ?_, ?_⟩
      · rw [List.length_map, List.length_map, List.length_take]
        exact small1000 (by omega)
      · rw [upd_ne (ne_of_none z hD)]
        exact s2 _ _ z
      · rw [upd_same, List.take_add_one, hc]
        simp
    · obtain ⟨s2, d2⟩ := hP
      rw [hlen, List.take_length] at d2
      refine ⟨D, cs.map fun _ => true, rfl, SqL.of d2, ?_⟩
      rw [show (cs.map fun _ => true).all id = true from by simp]
      exact q H2 (sm.trans s2)
/-- the order behind k changes -/
def odA (od : List Nat) (n i : Nat) : Nat → List Nat
  | 0 => od
  | k + 1 => insO (odA od n i k) (onM n i k) (n + 1 + k)
/-- what is looked at by k changes -/
def lkA (ow pc od : List Nat) (i : Nat) (cs : List (Nat × Int)) : Nat → Nat
  | 0 => 0
  | k + 1 => lkA ow pc od i cs k + looksB (ow ++ os ow.length i k) (pc ++ (cs.take k).map Prod.fst) (odA od ow.length i k) ((cs[k]?).getD (0, 0)).1 (onM ow.length i k)
def spPutAll (C CL : Addr) (tup : Bool) : Sp := fun vs H Q _ => ∃ (N : Addr → Prop) (o ca : Addr) (ws : List Int) (ow pc : List Nat) (vl : List Int) (ks od : List Nat) (st : Int) (i : Nat) (xs : List V) (cs : List (Nat × Int)), vs = [.ref o, num i, .ref ca] ∧ RowA N H o C CL ws ow pc vl ks od st ∧ i ≤ ow.length ∧ i ∈ ks ∧ ks.length ≤ 64 ∧ H ca = some (if tup = true then .tup xs else .lst xs) ∧ ChX H xs cs ∧ ChOk cs ws.length ∧ cs.length ≤ 20 ∧ ow.length + 1 + cs.length ≤ 64 ∧ ¬ N ca ∧ (∀ (k : Nat) (t : Addr), xs[k]? = some (.ref t) → ¬ N t) ∧
  ∀ (a : Addr) (H' : Hp) (N' : Addr → Prop), H a = none → H' a = some (.lst ((nums ow.length cs.length).map num)) → RowA N' H' o C CL ws (ow ++ os ow.length i cs.length) (pc ++ cs.map Prod.fst) (vl ++ cs.map Prod.snd) (ks ++ nums ow.length cs.length) (odA od ow.length i cs.length) (st + (lkA ow pc od i cs cs.length : Nat)) → (∀ c u, ¬ N c → H c = some u → H' c = some u) → (∀ c, N' c → N c ∨ H c = none) → ¬ N' a → Q (.ref a) H'
theorem ok_putall (T : Txt K mg) (OC : RowC K C) (c_is_changes : C8.Cal P w K mg base 4 "is_changes" (spChs false) []) (m_need_make : Met P w K mg base 2 C "need_make" (spNeedMk C CL) []) (m_size : Met P w K mg base 1 C "size" (spSize C CL) []) (m_need_new : Met P w K mg base 1 C "need_new" spNew []) (m__row_need_room_for : Met P w K mg base 2 C "_row_need_room_for" (spRoom C CL) []) (m__row_put : Met P w K mg base 21 C "_row_put" (spRPutA C CL) [])
    (M : MAt K C "put_all" "Rows.put_all" s_Rows_put_all ["self", "make", "changes"]) : Met P w K mg base 22 C "put_all" (spPutAll C CL false) [] := by
  refine M.met OC.cl sc_Rows_put_all (fun vs H Q E h => ?_) (fun f cdv A outer s H vs Q E hr h => ?_)
  · obtain ⟨N, o, ca, ws, ow, pc, vl, ks, od, st, i, xs, cs, rfl, _⟩ := h
    rfl
  · obtain ⟨N, o, ca, ws, ow, pc, vl, ks, od, st, i, xs, cs, rfl, r, hi, hk, hks, hca, hx, hok, h20, h64, nca, nxt, q⟩ := h
    obtain ⟨NB, fs, rb, sb⟩ := r.b
    obtain ⟨dx, e1, nl⟩ := rb.ins
    have hlen := hx.len
    refine ⟨_, (pss_cons (ps_expr (pe_mt m_need_make hr (by decide) (pv 0) (pa_cons (pv 1) pa_nil)))
      (pss_cons (ps_if (pt_not (pt_val (C8.pe_c c_is_changes hr (by decide) (by rfl) (pa_cons (pv 2) (pa_cons (pe_mt0 m_size hr (by decide) (pv 0)) pa_nil)))))
          (pss_one ps_never) pss_nil)
      (pss_cons (ps_if (pt_not (pt_truth (pv 2) (fun _ => rfl)))
          (pss_one (ps_ret (pe_lst pa_nil))) pss_nil)
      (pss_cons (ps_expr (pe_mt m_need_new hr (by decide) (pv 0) (pa_cons (pv 1) pa_nil)))
      (pss_cons (ps_expr (pe_mt m__row_need_room_for hr (by decide) (pv 0) (pa_cons (pe_callB call_len (by rfl) T.b_len boot_len_ (pa_cons (pv 2) pa_nil)) pa_nil)))
      (pss_cons (ps_set (i := 3) sc_Rows_put_all.nd rfl (Or.inl rfl) (pe_lst pa_nil))
      (pss_cons (ps_set (i := 4) sc_Rows_put_all.nd rfl (Or.inl rfl) (pv 1))
      (pss_cons (ps_for PassesOwn.never rfl (pi_list (pv 2)) (pg_tup (by rfl) (pgs_cons (pg_name (i := 5) sc_Rows_put_all.nd rfl (Or.inl rfl)) (pgs_cons (pg_name (i := 6) sc_Rows_put_all.nd rfl (Or.inl rfl)) pgs_nil)))
          (pss_cons (ps_set (i := 4) sc_Rows_put_all.nd rfl (Or.inl rfl) (pe_mt m__row_put hr (by decide) (pv 0) (pa_cons (pv 4) (pa_cons (pv 5) (pa_cons (pv 6) pa_nil)))))
          (pss_one (ps_expr (pe_bm PySem.F.plainAttrs_list PySem.F.slot_list_append PySem.F.type_list_append mt_append (pv 3) (pa_cons (pv 4) pa_nil))))))
      (pss_one (ps_ret (pv 3))))))))))), ?_⟩
    refine ⟨_, rfl, o, dx, fs, rfl, e1, nl _ (by decide), _, rfl, NB, o, ws.length, ow, pc, ks, st, fs, i, rfl, rb, hi, hk, ?_⟩
    refine ⟨_, rfl, _, rfl, o, dx, fs, rfl, e1, nl _ (by decide), NB, o, ws.length, ow, pc, ks, st, fs, rfl, rb, ca, xs, cs, _, rfl, hca, hx, h20, hok, fun H1 s1 => ⟨_, rfl, iteF ?_⟩⟩
    have r1 := r.same s1
    have a1 := s1 _ _ hca
    refine ⟨_, rfl, !xs.isEmpty, .inl ⟨xs, SqL.of a1, rfl⟩, ?_⟩
    by_cases hz : cs = []
    · subst hz
      obtain rfl : xs = [] := List.eq_nil_of_length_eq_zero hlen
      refine iteT ⟨(by show 0 ≤ sizeLine; decide), fun a ha => ?_⟩
      have s2 := same_new (o := .lst []) ha
      refine q a _ N (none_of' s1 ha) upd_same ?_ (fun c u _ z => s2 _ _ (s1 _ _ z)) (fun c h => .inl h) (fun h => (r1.laid a h).ne ha)
      rw [show ow ++ os ow.length i ([] : List (Nat × Int)).length = ow from List.append_nil _, show pc ++ ([] : List (Nat × Int)).map Prod.fst = pc from List.append_nil _, show vl ++ ([] : List (Nat × Int)).map Prod.snd = vl from List.append_nil _, show ks ++ nums ow.length ([] : List (Nat × Int)).length = ks from List.append_nil _, show odA od ow.length i ([] : List (Nat × Int)).length = od from rfl, show st + ((lkA ow pc od i [] ([] : List (Nat × Int)).length : Nat) : Int) = st from Int.add_zero _]
      exact r1.same s2
    · have hne : xs.isEmpty = false := by
        cases xs with
        | nil => exact absurd (List.eq_nil_of_length_eq_zero hlen.symm) hz
        | cons x xs => rfl
      rw [hne]
      refine iteF ?_
      obtain ⟨NB1, fs1, rb1, sb1⟩ := r1.b
      obtain ⟨dx1, e11, nl1⟩ := rb1.ins
      refine ⟨_, rfl, o, dx1, fs1, rfl, e11, nl1 _ (by decide), _, rfl, .ref o, num i, rfl, ?_⟩
      refine ⟨_, rfl, o, dx1, fs1, rfl, e11, nl1 _ (by decide), _, rfl, .ref ca, _, rfl, .inl ⟨_, SqL.of a1, rfl⟩, NB1, o, ws.length, ow, pc, ks, st, fs1, xs.length, rfl, rb1, by omega, ?_⟩
      refine ⟨(by show 0 ≤ sizeLine; decide), fun L hL => ⟨_, rfl, ?_⟩⟩
      have s2 := same_new (o := .lst []) hL
      have eL : (upd H1 L (.lst [])) L = some (.lst []) := upd_same
      have nL : ca ≠ L := ne_of_none a1 hL
      have nNL : ¬ N L := fun h => (r1.laid L h).ne hL
      have r2 := r1.same s2
      generalize upd H1 L (.lst []) = H2 at *
      have s12 := s1.trans s2
      refine ⟨_, rfl, ca, rfl, ⟨_, SqL.of (s2 _ _ a1)⟩, ?_⟩
      refine for_list (K := K) (a := ca) (xs := xs) (fun k σ H' => ∃ (N' : Addr → Prop) (y5 y6 : Option V), σ = [some (.ref o), some (num i), some (.ref ca), some (.ref L), some (num (onM ow.length i k)), y5, y6] ∧ H' ca = some (.lst xs) ∧ H' L = some (.lst ((nums ow.length k).map num)) ∧ RowA N' H' o C CL ws (ow ++ os ow.length i k) (pc ++ (cs.take k).map Prod.fst) (vl ++ (cs.take k).map Prod.snd) (ks ++ nums ow.length k) (odA od ow.length i k) (st + (lkA ow pc od i cs k : Nat)) ∧ (∀ c u, ¬ N c → H c = some u → H' c = some u) ∧ (∀ c, N' c → N c ∨ H c = none) ∧ ¬ N' L)
        ⟨N, none, none, rfl, s2 _ _ a1, eL, ?_, fun c u _ z => s12 _ _ z, fun c h => .inl h, nNL⟩ (fun k σ H' _ hP => ?_) (fun k x σ H3 hkx hP => ?_) (fun σ H3 hP => ?_)
      · rw [show ow ++ os ow.length i 0 = ow from List.append_nil _, show pc ++ (cs.take 0).map Prod.fst = pc from List.append_nil _, show vl ++ (cs.take 0).map Prod.snd = vl from List.append_nil _, show ks ++ nums ow.length 0 = ks from List.append_nil _, show odA od ow.length i 0 = od from rfl, show st + ((lkA ow pc od i cs 0 : Nat) : Int) = st from Int.add_zero _]
        exact r2
      · obtain ⟨N', y5, y6, rfl, eca, _⟩ := hP
        exact SqL.of eca
      · obtain ⟨N', y5, y6, rfl, eca, eL3, r3, k3, f3, nL3⟩ := hP
        obtain ⟨c, t, hc, rfl, ht⟩ := hx.get hkx
        have hk' : k < cs.length := by
          by_cases z : k < cs.length
          · exact z
          · rw [List.getElem?_eq_none (by omega)] at hc
            cases hc
        obtain ⟨b0, b1, b2⟩ := hok c (List.mem_of_getElem? hc)
        have ht3 := k3 _ _ (nxt k t hkx) ht
        obtain ⟨dx3, fs3, e3, nl3⟩ := r3.ins
        have hol : (ow ++ os ow.length i k).length = ow.length + k := by rw [List.length_append, os_len]
        have hle := onM_le (n := ow.length) (k := k) hi
        refine ⟨t, _, rfl, SqT.of ht3, rfl, _, _, rfl, _, _, rfl, rfl, ?_⟩
        refine ⟨_, rfl, o, dx3, fs3, rfl, e3, nl3 _ (by decide), _, rfl, _, rfl, _, rfl, N', o, ws, _, _, _, _, _, _, onM ow.length i k, c.1, c.2, rfl, r3, by rw [hol]; exact hle, onM_mem hk, by rw [hol]; omega, by rw [List.length_append, nums_len]; omega, b0, fun H4 N4 r4 k4 f4 => ?_⟩
        have eL4 := k4 _ _ nL3 eL3
        refine ⟨_, rfl, .inl ⟨rfl, _, SqL.of eL4⟩, _, rfl, L, _, _, rfl, rfl, eL4, small1000 (by rw [List.length_map, nums_len]; omega), ?_⟩
        have en : (ow ++ os ow.length i k).length + 1 = ow.length + 1 + k := by
          rw [List.length_append, os_len]
          omega
        rw [en] at r4 ⊢
        have h1 : ow ++ os ow.length i (k + 1) = (ow ++ os ow.length i k) ++ [onM ow.length i k] := by rw [os_succ, List.append_assoc]
        have h2 : pc ++ (cs.take (k + 1)).map Prod.fst = (pc ++ (cs.take k).map Prod.fst) ++ [c.1] := by
          rw [List.take_add_one, hc, List.map_append, List.append_assoc]
          rfl
        have h3 : vl ++ (cs.take (k + 1)).map Prod.snd = (vl ++ (cs.take k).map Prod.snd) ++ [c.2] := by
          rw [List.take_add_one, hc, List.map_append, List.append_assoc]
          rfl
        have h4 : ks ++ nums ow.length (k + 1) = (ks ++ nums ow.length k) ++ [ow.length + 1 + k] := by rw [nums_succ, List.append_assoc]
        have h5 : st + ((lkA ow pc od i cs (k + 1) : Nat) : Int) = st + (lkA ow pc od i cs k : Nat) + ((looksB (ow ++ os ow.length i k) (pc ++ (cs.take k).map Prod.fst) (odA od ow.length i k) c.1 (onM ow.length i k) : Nat) : Int) := by
          rw [lkA, hc]
          show _ = _
          simp only [Option.getD]
          omega
        have h6 : odA od ow.length i (k + 1) = insO (odA od ow.length i k) (onM ow.length i k) (ow.length + 1 + k) := rfl
        have nL4 : ¬ N4 L := fun h => (f4 L h).elim nL3 fun z => by rw [eL3] at z; cases z
        have nca' : ¬ N' ca := fun h => (f3 ca h).elim nca fun z => by rw [hca] at z; cases z
        have k5 : ∀ c u, c ≠ L → H4 c = some u → (upd H4 L (.lst ((nums ow.length k).map num ++ [num (ow.length + 1 + k)]))) c = some u := fun c u hc z => by
          rw [upd_ne hc]
          exact z
        have eL5 : (upd H4 L (.lst ((nums ow.length k).map num ++ [num (ow.length + 1 + k)]))) L = some (.lst ((nums ow.length (k + 1)).map num)) := by
          rw [upd_same, nums_succ, List.map_append]
          rfl
        have eo : num (ow.length + 1 + k) = num (onM ow.length i (k + 1)) := by
          rw [onM_succ]
          congr 1
          omega
        have hL0 : H L = none := none_of' s1 hL
        refine ⟨N4, some (num c.1), some (.int c.2), ?_, k5 _ _ nL (k4 _ _ nca' eca), eL5, ?_, fun c u hc z => k5 _ _ (ne_of_none z hL0) (k4 _ _ (fun h => (f3 c h).elim hc fun y => by rw [y] at z; cases z) (k3 _ _ hc z)), fun c h => (f4 c h).elim (f3 c) fun z => ?_, nL4⟩
        · rw [← eo]
          rfl
        · rw [h1, h2, h3, h4, h5, h6]
          exact r4.kp (fun c u hc z => k5 _ _ (fun e => nL4 (e ▸ hc)) z) fun c ys z => k5 _ _ (fun e => by rw [e, eL4] at z; cases z) z
        · by_cases hn : N c
          · exact .inl hn
          · right
            cases y : H c with
            | none => rfl
            | some u =>
              rw [k3 _ _ hn y] at z
              cases z
      · obtain ⟨N', y5, y6, rfl, eca, eL3, r3, k3, f3, nL3⟩ := hP
        rw [hlen] at eL3 r3
        rw [List.take_length] at r3
        exact ⟨_, rfl, q L H3 N' (none_of' s1 hL) eL3 r3 k3 f3 nL3⟩
end
end K46
namespace K46
open PySem PySem.Spec PyProof.Rows L2 Gd
open C8 (clsBody Met pe_mt pe_mt0)
theorem RowB.putO {N : Addr → Prop} {H H' : Hp} {o C CL : Addr} {n : Nat} {ow pc ks : List Nat} {st : Int} {fs : List (Str × V)} {f : Str} {v v0 : V} {dx : Addr} (r : RowB N H o C CL n ow pc ks st fs) (hf : f ∈ rfields) (hb : f ∉ bfields) (l : fs.lookup f = some v0) (e : H' o = some (.ins C dx (putF f v fs))) (k : ∀ c u, c ≠ o → N c → H c = some u → H' c = some u) : RowB N H' o C CL n ow pc ks st (putF f v fs) := by
  obtain ⟨dx0, t, p, kk, Nt, e1, l1, l2, l3, l4, l5, nl, lf, lw, e2, e3, No, Nt', Np, Nk, sub, x1, x2, x3, x4, x6, x7⟩ := r.ex
  have op : o ≠ p := fun z => by rw [z, e2] at e1; cases e1
  have ok : o ≠ kk := fun z => by rw [z, e3] at e1; cases e1
  have ne : ∀ g, g ∈ bfields → f ≠ g := fun g hg z => hb (z ▸ hg)
  refine ⟨⟨dx, t, p, kk, Nt, e, ?_, ?_, ?_, ?_, ?_, fun g hg => ?_, ?_, lw.kp (fun c u h z => k c u (h.elim (fun h e => x1 (e ▸ h)) fun e => e ▸ x7.symm) (h.elim (sub c) fun e => e ▸ Nt') z), k _ _ op.symm Np e2, k _ _ ok.symm Nk e3, No, Nt', Np, Nk, sub, x1, x2, x3, x4, x6, x7⟩, r.lp, r.sz, r.pl, r.kl, r.kr⟩
  · rw [lookup_putF, if_neg (ne _ (by decide)).symm]; exact l1
  · rw [lookup_putF, if_neg (ne _ (by decide)).symm]; exact l2
  · rw [lookup_putF, if_neg (ne _ (by decide)).symm]; exact l3
  · rw [lookup_putF, if_neg (ne _ (by decide)).symm]; exact l4
  · rw [lookup_putF, if_neg (ne _ (by decide)).symm]; exact l5
  · rw [lookup_putF, if_neg (fun z => hg (by rw [z]; exact hf))]; exact nl g hg
  · rw [putF_len l]
    exact lf
theorem T3X.cut {H H' : Hp} {xs : List V} {ts : List T3} (r : T3X H xs ts) (m : Nat) (k : KT H H') : T3X H' (xs.eraseIdx m) (ts.eraseIdx m) := by
  have r' := r.kp k
  refine ⟨by rw [List.length_eraseIdx, List.length_eraseIdx, r.len], fun i p h => ?_⟩
  rw [List.getElem?_eraseIdx] at h
  by_cases z : i < m
  · rw [if_pos z] at h
    obtain ⟨t, t1, t2⟩ := r'.at_ i p h
    exact ⟨t, by rw [List.getElem?_eraseIdx, if_pos z]; exact t1, t2⟩
  · rw [if_neg z] at h
    obtain ⟨t, t1, t2⟩ := r'.at_ _ p h
    exact ⟨t, by rw [List.getElem?_eraseIdx, if_neg z]; exact t1, t2⟩
theorem map_cut {α β : Type} (f : α → β) (l : List α) (m : Nat) : (l.map f).eraseIdx m = (l.eraseIdx m).map f := by
  refine List.ext_getElem? fun i => ?_
  simp only [List.getElem?_eraseIdx, List.getElem?_map]
  split <;> rfl
theorem seq_at {m n : Nat} (h : m < n) : seqIndex? ((m : Nat) : Int) n = some m := by
  have h0 : ¬ ((m : Nat) : Int) < 0 := by omega
  unfold seqIndex?
  simp only [h0, if_false]
  rw [if_pos]
  · rfl
  · simp
    exact h
theorem erase_idx {od : List Nat} {i : Nat} (h : i ∈ od) : od.eraseIdx (od.idxOf i) = od.erase i := by
  induction od with
  | nil => cases h
  | cons x xs ih =>
    by_cases z : x = i
    · subst z
      rw [List.erase_cons_head, List.idxOf_cons_self]
      rfl
    · have hm : i ∈ xs := (List.mem_cons.mp h).elim (fun e => absurd e.symm z) id
      rw [List.erase_cons_tail (by simpa using z), List.idxOf_cons, show (x == i) = false from by simpa using z, ← ih hm]
      rfl
section
variable {P : Program} {w : World} {K : PySem.W.Frag} {mg : Str → Option Value} {base : Heap} {C CL : Addr}
def spFreed (C CL : Addr) : Sp := fun vs H Q _ => ∃ (NB Ne : Addr → Prop) (o : Addr) (ws : List Int) (ow pc : List Nat) (vl : List Int) (ks od : List Nat) (st : Int) (fs : List (Str × V)) (i : Nat), vs = [.ref o, num i] ∧ RowB NB H o C CL ws.length ow pc (ks.erase i) st fs ∧ Ext Ne H fs ws ow pc vl ks od ∧ (∀ c, NB c → ¬ Ne c) ∧ (∀ c, NB c → Ld H c) ∧ (∀ c, Ne c → Ld H c) ∧ i ≤ ow.length ∧ i ∈ ks ∧ ks.length ≤ 64 ∧
  ∀ (a : Addr) (H' : Hp) (xs : List V) (fs' : List (Str × V)) (Ne' : Addr → Prop), H a = none → H' a = some (.lst xs) → PrX H' xs (freeL ow pc (ks.erase i) i ws.length) → RowB NB H' o C CL ws.length ow pc (ks.erase i) st fs' → Ext Ne' H' fs' ws ow pc vl (ks.erase i) (od.erase i) → (∀ c, NB c → ¬ Ne' c) → (∀ c, NB c → Ld H' c) → (∀ c, Ne' c → Ld H' c) → (∀ c, Ne' c → Ne c ∨ H c = none) → ¬ NB a → ¬ Ne' a → (∀ c u, c ≠ o → ¬ Ne c → H c = some u → H' c = some u) → (∀ c, H' c = none → H c = none) → Q (.ref a) H'
theorem ok_freed (T : Txt K mg) (OC : RowC K C) (c__first_of_runs : C8.Cal P w K mg base 1 "_first_of_runs" spFirst []) (m_size : Met P w K mg base 1 C "size" (spSize C CL) []) (m__turn_of_each : Met P w K mg base 1 C "_turn_of_each" (spEach C CL) []) (m__needed_no_more : Met P w K mg base 5 C "_needed_no_more" (spFree C CL) []) (M : MAt K C "freed" "Boxed.freed" s_Boxed_freed ["self", "make"]) : Met P w K mg base 6 C "freed" (spFreed C CL) [] := by
  refine M.met OC.cl sc_Boxed_freed (fun vs H Q E h => ?_) (fun f cdv A outer s H vs Q E hr h => ?_)
  · obtain ⟨NB, Ne, o, ws, ow, pc, vl, ks, od, st, fs, i, rfl, _⟩ := h
    rfl
  · obtain ⟨NB, Ne, o, ws, ow, pc, vl, ks, od, st, fs, i, rfl, rb, xt, dj, lb, ld, hi, hik, h64, q⟩ := h
    refine ⟨_, (pss_cons (ps_set (i := 2) sc_Boxed_freed.nd rfl (Or.inl rfl) (pe_bm PySem.F.plainAttrs_list PySem.F.slot_list_index PySem.F.type_list_index mt_index (pe_fld (pv 0) rfl) (pa_cons (pv 1) pa_nil)))
      (pss_cons (ps_set (i := 3) sc_Boxed_freed.nd rfl (Or.inl rfl) (pe_lst pa_nil))
      (pss_cons (ps_for PassesOwn.never rfl (pi_range1 rfl T.b_range (pa_cons (pe_mt0 m_size hr (by decide) (pv 0)) pa_nil)) (pg_name (i := 4) sc_Boxed_freed.nd rfl (Or.inl rfl))
          (pss_cons (ps_set (i := 5) sc_Boxed_freed.nd rfl (Or.inl rfl) (pe_mt m__turn_of_each hr (by decide) (pv 0) (pa_cons (pv 4) pa_nil)))
          (pss_cons (ps_delL (pv 5) (pv 2))
          (pss_one (ps_expr (pe_bm PySem.F.plainAttrs_list PySem.F.slot_list_append PySem.F.type_list_append mt_append (pv 3) (pa_cons (C8.pe_c c__first_of_runs hr (by decide) (by rfl) (pa_cons (pv 5) pa_nil)) pa_nil)))))))
      (pss_cons (ps_fld (pv 0) (pv 3) rfl)
      (pss_cons (ps_delL (pe_fld (pv 0) rfl) (pv 2))
      (pss_one (ps_ret (pe_mt m__needed_no_more hr (by decide) (pv 0) (pa_cons (pv 1) pa_nil))))))))), ?_⟩
    obtain ⟨dx, e1, nl⟩ := rb.ins
    obtain ⟨rr, d, bs, l1, er, nr, l2, ed, nd, rd, odn, h1, h2, h3, h4, h5, h6⟩ := xt.w.ex
    have hio : i ∈ od := xt.pm.mem_iff.mpr hik
    have hol : od.length ≤ 64 := by
      rw [xt.pm.length_eq]
      exact h64
    have hix : od.idxOf i < od.length := List.idxOf_lt_length_of_mem hio
    have hg : od[od.idxOf i]? = some i := by rw [List.getElem?_eq_getElem hix, List.getElem_idxOf hix]
    have hlt : ∀ (m : Nat) (z' : V), m < od.idxOf i → (od.map num)[m]? = some z' → eqV z' (num i) = false := fun m z' hm hz => by
      rw [List.getElem?_map, getD_at (by omega)] at hz
      cases (show some (num (od.getD m 0)) = some z' from hz)
      refine eqv_num fun e => ?_
      have := getD_inj odn (a := m) (b := od.idxOf i) (by omega) hix (by
        rw [e, List.getD_eq_getElem?_getD, hg]
        rfl)
      omega
    have sz := rb.sz
    refine ⟨_, rfl, o, C, dx, fs, .ref rr, rfl, e1, OC.cl, OC.n_order, l1, .inl ⟨rfl, _, SqL.of er⟩, _, rfl, rr, _, num i, od.idxOf i, num i, rfl, rfl, SqL.of er, rfl, flat_nums od, (by rw [List.getElem?_map, hg]; rfl), (by rw [eq_num]; exact decide_eq_true rfl), hlt, ?_⟩
    refine ⟨(by show 0 ≤ sizeLine; decide), fun L hL => ?_⟩
    have s1 := same_new (o := .lst []) hL
    have eL : (upd H L (.lst [])) L = some (.lst []) := upd_same
    generalize upd H L (.lst []) = H1 at *
    refine ⟨_, rfl, o, dx, fs, rfl, s1 _ _ e1, nl _ (by decide), NB, o, ws.length, ow, pc, ks.erase i, st, fs, rfl, rb.same s1, (ws.length : Nat), rfl, by omega, by omega, ?_⟩
    rw [Int.toNat_natCast]
    refine for_range (lo := 0) (n := ws.length) (fun n σ H' => ∃ (y4 y5 : Option V) (ps : List Addr), σ = [some (.ref o), some (num i), some (num (od.idxOf i)), some (.ref L), y4, y5] ∧ H' L = some (.lst (ps.map V.ref)) ∧ ps.length = n ∧ ps.Nodup ∧ L ∉ ps ∧ (∀ p, p ∈ ps → H p = none) ∧ (∀ (q : Nat) (p : Addr), ps[q]? = some p → ∃ zs, H' p = some (.lst zs) ∧ T3X H' zs (rbox ws vl q (wrt ow pc q 64) (od.erase i))) ∧ (∀ c u, H c = some u → H' c = some u))
      ⟨none, none, [], rfl, eL, rfl, List.nodup_nil, List.not_mem_nil, (fun p hp => by cases hp), (fun q p hp => by cases hp), fun c u z => s1 _ _ z⟩ (fun n σ H2 hn hP => ?_) (fun σ H2 hP => ?_)
    · obtain ⟨y4, y5, ps, rfl, eL2, hpl, pnd, Lps, pfr, hall, k2⟩ := hP
      have ev : V.int (0 + ((n : Nat) : Int)) = num n := by
        show V.int _ = V.int _
        rw [Int.zero_add]
      rw [ev]
      have rb2 := rb.same k2
      have x2 := xt.w.kp (H' := H2) (fun c u _ z => k2 c u z) (KT.of k2)
      obtain ⟨dx2, e2, nl2⟩ := rb2.ins
      refine ⟨_, rfl, o, dx2, fs, rfl, e2, nl2 _ (by decide), _, rfl, NB, Ne, o, ws.length, ws, ow, pc, vl, ks.erase i, od, _, st, fs, n, rfl, rb2, x2, hn, List.ne_nil_of_mem hio, hol, fun a H3 xs ha ea tx s3 => ?_⟩
      have hxl := tx.len
      rw [List.length_map] at hxl
      refine ⟨_, rfl, _, rfl, a, xs, ((od.idxOf i : Nat) : Int), od.idxOf i, rfl, rfl, ea, by omega, by omega, ?_, ?_⟩
      · exact seq_at (by omega)
      have k4 : ∀ c u, c ≠ a → H3 c = some u → (upd H3 a (.lst (xs.eraseIdx (od.idxOf i)))) c = some u := fun c u hc z => by
        rw [upd_ne hc]
        exact z
      have ea4 : (upd H3 a (.lst (xs.eraseIdx (od.idxOf i)))) a = some (.lst (xs.eraseIdx (od.idxOf i))) := upd_same
      have kt4 : KT H3 (upd H3 a (.lst (xs.eraseIdx (od.idxOf i)))) := fun c ys z => k4 _ _ (fun e => by rw [e, ea] at z; cases z) z
      generalize upd H3 a (.lst (xs.eraseIdx (od.idxOf i))) = H4 at *
      have tx4 := tx.cut (od.idxOf i) kt4
      rw [show (od.map (trip ws vl n (wrt ow pc n 64))).eraseIdx (od.idxOf i) = (od.erase i).map (trip ws vl n (wrt ow pc n 64)) from by rw [← erase_idx hio, map_cut]] at tx4
      have La : L ≠ a := ne_of_none eL2 ha
      have eL4 := k4 _ _ La (s3 _ _ eL2)
      have hle := List.length_erase_of_mem hio
      refine ⟨_, rfl, .inl ⟨rfl, _, SqL.of eL4⟩, _, rfl, a, _, _, rfl, ea4, tx4, by rw [List.length_map]; omega, fun p H5 zs hp ep ty s5 => ?_⟩
      rw [first_trip] at ty
      have eL5 := s5 _ _ eL4
      have k25 : ∀ c u, c ≠ a → H2 c = some u → H5 c = some u := fun c u hc z => s5 _ _ (k4 _ _ hc (s3 _ _ z))
      have pL : p ≠ L := (ne_of_none eL4 hp).symm
      have nH : ∀ c, H4 c = none → H c = none := fun c z => by
        cases y : H c with
        | none => rfl
        | some u =>
          rw [k4 c u (ne_of_none (k2 _ _ y) ha) (s3 _ _ (k2 _ _ y))] at z
          cases z
      refine ⟨L, _, _, rfl, rfl, eL5, small1000 (by rw [List.length_map]; omega), some (num n), some (.ref a), ps ++ [p], rfl, by rw [upd_same, List.map_append]; rfl, by rw [List.length_append, hpl]; rfl, ?_, ?_, ?_, ?_, ?_⟩
      · rw [List.nodup_append]
        refine ⟨pnd, List.pairwise_singleton _ _, fun x hx y hy e => ?_⟩
        have hyp : y = p := List.mem_singleton.mp hy
        rw [e, hyp] at hx
        obtain ⟨m, hm⟩ := List.getElem?_of_mem hx
        obtain ⟨zs', ez, _⟩ := hall m p hm
        have := k4 p _ (ne_of_none ez ha) (s3 _ _ ez)
        rw [hp] at this
        cases this
      · intro h
        rcases List.mem_append.mp h with h | h
        · exact Lps h
        · exact pL (List.mem_singleton.mp h).symm
      · intro p' h
        rcases List.mem_append.mp h with h | h
        · exact pfr p' h
        · rw [List.mem_singleton.mp h]
          exact nH p hp
      · intro q' p' h
        have kL : ∀ c u, c ≠ L → H5 c = some u → (upd H5 L (.lst (ps.map V.ref ++ [V.ref p]))) c = some u := fun c u hc z => by
          rw [upd_ne hc]
          exact z
        have ktL : KT H5 (upd H5 L (.lst (ps.map V.ref ++ [V.ref p]))) := fun c ys z => kL _ _ (fun e => by rw [e, eL5] at z; cases z) z
        have kt25 : KT H2 H5 := fun c ys z => s5 _ _ (kt4 _ _ (s3 _ _ z))
        by_cases hq : q' < ps.length
        · rw [List.getElem?_append_left hq] at h
          obtain ⟨zs', ez, tz⟩ := hall q' p' h
          have hm := List.mem_of_getElem? h
          exact ⟨zs', kL _ _ (fun e => Lps (e ▸ hm)) (k25 _ _ (ne_of_none ez ha) ez), (tz.kp kt25).kp ktL⟩
        · rw [List.getElem?_append_right (by omega)] at h
          cases hz : q' - ps.length with
          | zero =>
            rw [hz] at h
            obtain rfl : p = p' := Option.some.inj h
            obtain rfl : q' = n := by omega
            exact ⟨zs, kL _ _ pL ep, ty.kp ktL⟩
          | succ m =>
            rw [hz] at h
            simp at h
      · intro c u z
        rw [upd_ne (ne_of_none z hL)]
        exact k25 c u (ne_of_none (k2 _ _ z) ha) (k2 _ _ z)
    · obtain ⟨y4, y5, ps, rfl, eL2, hpl, pnd, Lps, pfr, hall, k2⟩ := hP
      have e2 := k2 _ _ e1
      have lf := rb.few
      refine ⟨_, rfl, _, rfl, o, C, dx, fs, rfl, e2, OC.cl, OC.n_boxes, by omega, ?_⟩
      have k3 : ∀ c u, c ≠ o → H2 c = some u → (upd H2 o (.ins C dx (putF "_boxes" (.ref L) fs))) c = some u := fun c u hc z => by
        rw [upd_ne hc]
        exact z
      have e3 : (upd H2 o (.ins C dx (putF "_boxes" (.ref L) fs))) o = some (.ins C dx (putF "_boxes" (.ref L) fs)) := upd_same
      have rb3 : RowB NB (upd H2 o (.ins C dx (putF "_boxes" (.ref L) fs))) o C CL ws.length ow pc (ks.erase i) st (putF "_boxes" (.ref L) fs) := (rb.same k2).putO (f := "_boxes") (v := .ref L) (dx := dx) (by decide) (by decide) l2 upd_same (fun c u hc _ z => by rw [upd_ne hc]; exact z)
      generalize upd H2 o (.ins C dx (putF "_boxes" (.ref L) fs)) = H3 at *
      have neo : ∀ c, Ne c → c ≠ o := fun c h e => dj o rb.own (e ▸ h)
      have er3 := k3 _ _ (neo rr nr) (k2 _ _ er)
      have lo3 : (putF "_boxes" (.ref L) fs).lookup ("_order" : Str) = some (.ref rr) := by
        rw [lookup_putF, if_neg (by decide)]
        exact l1
      refine ⟨_, rfl, o, C, dx, _, .ref rr, rfl, e3, OC.cl, OC.n_order, lo3, _, rfl, rr, _, ((od.idxOf i : Nat) : Int), od.idxOf i, rfl, rfl, er3, by omega, by omega, seq_at (by rw [List.length_map]; exact hix), ?_⟩
      rw [map_cut, erase_idx hio]
      have k4 : ∀ c u, c ≠ rr → H3 c = some u → (upd H3 rr (.lst ((od.erase i).map num))) c = some u := fun c u hc z => by
        rw [upd_ne hc]
        exact z
      have er4 : (upd H3 rr (.lst ((od.erase i).map num))) rr = some (.lst ((od.erase i).map num)) := upd_same
      have kt4 : KT H3 (upd H3 rr (.lst ((od.erase i).map num))) := fun c ys z => k4 _ _ (fun e => by rw [e, er3] at z; cases z) z
      generalize upd H3 rr (.lst ((od.erase i).map num)) = H4 at *
      have rb4 := rb3.kp (H' := H4) fun c u h z => k4 c u (fun e => dj c h (e ▸ nr)) z
      obtain ⟨dx4, e4, nl4⟩ := rb4.ins
      have kt24 : KT H2 H4 := fun c ys z => kt4 _ _ (k3 _ _ (fun e => by rw [e, e2] at z; cases z) z)
      have Lo : L ≠ o := (ne_of_none e1 hL).symm
      have Lr : L ≠ rr := (ne_of_none er hL).symm
      have eL4 := k4 _ _ Lr (k3 _ _ Lo eL2)
      have NeL : ¬ Ne L := fun h => (ld L h).ne hL
      have hke : (ks.erase i).length ≤ 64 := Nat.le_trans (List.length_erase_le ..) h64
      have pno : ∀ p, p ∈ ps → p ≠ o ∧ p ≠ rr := fun p h => ⟨(fun e => by have := pfr p h; rw [e, e1] at this; cases this), (fun e => by have := pfr p h; rw [e, er] at this; cases this)⟩
      refine ⟨_, rfl, o, dx4, _, rfl, e4, nl4 _ (by decide), _, rfl, NB, o, ws.length, ow, pc, ks.erase i, st, _, i, rfl, rb4, hi, hke, fun a H5 xs ha ea px fx s5 => ?_⟩
      have n4 : ∀ c, H4 c = none → H c = none := fun c z => by
        cases y : H c with
        | none => rfl
        | some u =>
          by_cases y1 : c = o
          · rw [y1, e4] at z
            cases z
          · by_cases y2 : c = rr
            · rw [y2, er4] at z
              cases z
            · rw [k4 _ _ y2 (k3 _ _ y1 (k2 _ _ y))] at z
              cases z
      have k05 : ∀ c u, c ≠ o → c ≠ rr → H c = some u → H5 c = some u := fun c u h1 h2 z => s5 _ _ (k4 _ _ h2 (k3 _ _ h1 (k2 _ _ z)))
      refine q a H5 xs _ (fun c => Ne c ∨ c = L ∨ c ∈ ps) (n4 a ha) ea px (rb4.same s5) ⟨⟨rr, L, ps, lo3, s5 _ _ er4, .inl nr, by rw [lookup_putF, if_pos rfl], s5 _ _ eL4, .inr (.inl rfl), Lr.symm, odn.sublist (List.erase_sublist ..), hpl, Lps, fun h => (pno rr h).2 rfl, pnd, fun p h => .inr (.inr h), fun q' p hp => ?_⟩, xt.pm.erase i⟩ (fun c h1 h2 => ?_) (fun c h => ?_) (fun c h => ?_) (fun c h => ?_) (fun h => (lb a h).ne (n4 a ha)) (fun h => ?_) (fun c u h1 h2 z => k05 c u h1 (fun e => h2 (e ▸ nr)) z) fun c h => n4 c (by
        cases z : H4 c with
        | none => rfl
        | some u =>
          rw [s5 _ _ z] at h
          cases h)
      · obtain ⟨zs, ez, tz⟩ := hall q' p hp
        obtain ⟨p1, p2⟩ := pno p (List.mem_of_getElem? hp)
        exact ⟨zs, s5 _ _ (k4 _ _ p2 (k3 _ _ p1 ez)), (tz.kp kt24).kp (KT.of s5)⟩
      · rcases h2 with h2 | h2 | h2
        · exact dj c h1 h2
        · exact (lb c h1).ne (h2 ▸ hL)
        · exact (lb c h1).ne (pfr c h2)
      · by_cases y : c = o
        · rw [y]
          exact .ins (s5 _ _ e4)
        · exact (lb c h).kp fun u z => k05 c u y (fun e => dj c h (e ▸ nr)) z
      · rcases h with h | h | h
        · by_cases y : c = rr
          · rw [y]
            exact .lst (s5 _ _ er4)
          · exact (ld c h).kp fun u z => k05 c u (neo c h) y z
        · rw [h]
          exact .lst (s5 _ _ eL4)
        · obtain ⟨m, hm⟩ := List.getElem?_of_mem h
          obtain ⟨zs, ez, _⟩ := hall m c hm
          obtain ⟨p1, p2⟩ := pno c h
          exact .lst (s5 _ _ (k4 _ _ p2 (k3 _ _ p1 ez)))
      · rcases h with h | h | h
        · exact .inl h
        · exact .inr (h ▸ hL)
        · exact .inr (pfr c h)
      · rcases h with h | h | h
        · exact (ld a h).ne (n4 a ha)
        · rw [h, eL4] at ha
          cases ha
        · obtain ⟨m, hm⟩ := List.getElem?_of_mem h
          obtain ⟨zs, ez, _⟩ := hall m a hm
          obtain ⟨p1, p2⟩ := pno a h
          rw [k4 _ _ p2 (k3 _ _ p1 ez)] at ha
          cases ha
end
end K46
namespace K46
open PySem PySem.Spec PyProof.Rows L2 Gd Gs
open NdefX (NScope nscope_by ncx startF NF)
open C8 (clsBody Met pe_mt pe_mt0)
theorem mem_free {ow pc ks : List Nat} {i n : Nat} {x : Nat × Nat} (h : x ∈ freeL ow pc ks i n) : x.1 < n ∧ x.2 = wrt ow pc x.1 64 i ∧ ∀ k, k ∈ ks → wrt ow pc x.1 64 k ≠ wrt ow pc x.1 64 i := by
  obtain ⟨q, hq, rfl⟩ := List.mem_map.mp h
  obtain ⟨h1, h2⟩ := List.mem_filter.mp hq
  exact ⟨List.mem_range.mp h1, rfl, fun k hk => of_decide_eq_true (List.all_eq_true.mp h2 k hk)⟩
theorem free_mem {ow pc ks : List Nat} {i n q : Nat} (h : q < n) (h2 : ∀ k, k ∈ ks → wrt ow pc q 64 k ≠ wrt ow pc q 64 i) : (q, wrt ow pc q 64 i) ∈ freeL ow pc ks i n :=
  List.mem_map.mpr ⟨q, List.mem_filter.mpr ⟨List.mem_range.mpr h, List.all_eq_true.mpr fun k hk => decide_eq_true (h2 k hk)⟩, rfl⟩
theorem free_rise (ow pc ks : List Nat) (i n : Nat) : (freeL ow pc ks i n).Pairwise fun a b => a.1 < b.1 := by
  unfold freeL
  exact List.Pairwise.map _ (fun a b z => z) (List.Pairwise.sublist (List.filter_sublist ..) List.pairwise_lt_range)
theorem PrX.get {H : Hp} {xs : List V} {ps : List (Nat × Nat)} (r : PrX H xs ps) {i : Nat} {x : V} (e : xs[i]? = some x) : ∃ p t, ps[i]? = some p ∧ x = .ref t ∧ H t = some (.tup [num p.1, num p.2]) := by
  have hi : i < ps.length := by
    by_cases z : i < ps.length
    · exact z
    · rw [List.getElem?_eq_none (by rw [r.len]; omega)] at e
      cases e
  obtain ⟨t, t1, t2⟩ := r.at_ i _ (List.getElem?_eq_getElem hi)
  rw [t1] at e
  cases e
  exact ⟨_, t, List.getElem?_eq_getElem hi, rfl, t2⟩
theorem PrX.kp {H H' : Hp} {xs : List V} {ps : List (Nat × Nat)} (r : PrX H xs ps) (k : ∀ c ys, H c = some (.tup ys) → H' c = some (.tup ys)) : PrX H' xs ps := ⟨r.len, fun i p e => by
  obtain ⟨t, t1, t2⟩ := r.at_ i p e
  exact ⟨t, t1, k _ _ t2⟩⟩
theorem num_map (ks : List Nat) : ks.map num = (ks.map fun k : Nat => (k : Int)).map V.int := by
  rw [List.map_map]
  rfl
theorem map_erase (ks : List Nat) (i : Nat) : ((ks.map fun k : Nat => (k : Int)).erase (i : Int)) = (ks.erase i).map fun k : Nat => (k : Int) := by
  induction ks with
  | nil => rfl
  | cons k ks ih =>
    rw [List.map_cons, List.erase_cons, List.erase_cons]
    by_cases z : k = i
    · rw [if_pos (by simp [z]), if_pos (by simp [z])]
    · have z2 : ¬ ((k : Int) = (i : Int)) := by omega
      rw [if_neg (by simpa using z2), if_neg (by simpa using z), List.map_cons, ih]
section
variable {P : Program} {w : World} {K : PySem.W.Frag} {mg : Str → Option Value} {base : Heap} {C CL : Addr}
def spGo (C CL : Addr) : Sp := fun vs H Q _ => ∃ (N : Addr → Prop) (o : Addr) (ws : List Int) (ow pc : List Nat) (vl : List Int) (ks od : List Nat) (st : Int) (i : Nat), vs = [.ref o, num i] ∧ RowA N H o C CL ws ow pc vl ks od st ∧ i ≤ ow.length ∧ i ∈ ks ∧ 2 ≤ ks.length ∧ ks.length ≤ 64 ∧
  ∀ (a : Addr) (H' : Hp) (xs : List V) (N' : Addr → Prop), H a = none → H' a = some (.lst xs) → PrX H' xs (freeL ow pc (ks.erase i) i ws.length) → RowA N' H' o C CL ws ow pc vl (ks.erase i) (od.erase i) st → ¬ N' a → (∀ c u, ¬ N c → H c = some u → H' c = some u) → (∀ c, N' c → N c ∨ H c = none) → Q (.ref a) H'
theorem fn_rgo {f : Addr} {fd : FuncData} (T : Txt K mg) (OC : RowC K C) (m_need_make : Met P w K mg base 2 C "need_make" (spNeedMk C CL) []) (m_freed : Met P w K mg base 6 C "freed" (spFreed C CL) []) (F : Fun K "let_go" "Rows.let_go" s_Rows_let_go f fd) : FnOk P w K mg base CX0 7 f fd ["self", "make"] (spGo C CL) := by
  refine F.ok sc_Rows_let_go (fun vs H Q E h => ?_) (fun cdv A outer s H vs Q E hr h => ?_)
  · obtain ⟨N, o, ws, ow, pc, vl, ks, od, st, i, rfl, _⟩ := h
    rfl
  · obtain ⟨N, o, ws, ow, pc, vl, ks, od, st, i, rfl, r, hi, hk, h2, h64, q⟩ := h
    refine ⟨_, (pss_cons (ps_expr (pe_mt m_need_make hr (by decide) (pv 0) (pa_cons (pv 1) pa_nil)))
      (pss_cons (ps_if (pt_cmpR op_eq (pe_callB call_len (by rfl) T.b_len boot_len_ (pa_cons (pe_fld (pv 0) rfl) pa_nil)) pe_int (nomark _))
          (pss_one ps_never) pss_nil)
      (pss_cons (ps_expr (pe_bm PySem.F.plainAttrs_list PySem.F.slot_list_remove PySem.F.type_list_remove mt_remove (pe_fld (pv 0) rfl) (pa_cons (pv 1) pa_nil)))
      (pss_one (ps_ret (pe_callTy call_list_of (by rfl) T.t_list boot_list_ (pa_cons (pe_mt m_freed hr (by decide) (pv 0) (pa_cons (pv 1) pa_nil)) pa_nil))))))), ?_⟩
    obtain ⟨NB, Ne, fs, rb, xt, sb, se, dj⟩ := r.ex
    obtain ⟨dx, t, p, kk, Nt, e1, l1, l2, l3, l4, l5, nl, lf, lw, e2, e3, No, Nt', Np, Nk, sub, x1, x2, x3, x4, x6, x7⟩ := rb.ex
    have okk : o ≠ kk := fun e => by rw [e, e3] at e1; cases e1
    have tk : t ≠ kk := fun e => by
      obtain ⟨_, _, _, _, _, et, _⟩ := lw.tr.ex
      rw [e, e3] at et
      cases et
    refine ⟨_, rfl, o, dx, fs, rfl, e1, nl _ (by decide), _, rfl, NB, o, ws.length, ow, pc, ks, st, fs, i, rfl, rb, hi, hk, ?_⟩
    refine ⟨_, rfl, o, C, dx, fs, .ref kk, rfl, e1, OC.cl, OC.n_kept, l4, _, _, rfl, .inl ⟨_, SqL.of e3, rfl⟩, rfl, _, rfl, ?_⟩
    refine ite2 (fun z => ?_) (fun _ => ?_)
    · have := V.int.inj (of_decide_eq_true z)
      rw [List.length_map] at this
      omega
    obtain ⟨j, _, hj, hno, he⟩ := first_at (ns := ks.map fun k : Nat => (k : Int)) (k := (i : Int)) (List.mem_map.mpr ⟨i, hk, rfl⟩)
    refine ⟨_, rfl, o, C, dx, fs, .ref kk, rfl, e1, OC.cl, OC.n_kept, l4, .inl ⟨rfl, _, SqL.of e3⟩, _, rfl, kk, _, (i : Int), j, rfl, rfl, (num_map ks ▸ e3), hj, hno, ?_⟩
    rw [he, map_erase, ← num_map]
    have k1 : ∀ c u, c ≠ kk → H c = some u → (upd H kk (.lst ((ks.erase i).map num))) c = some u := fun c u hc z => by
      rw [upd_ne hc]
      exact z
    have e31 : (upd H kk (.lst ((ks.erase i).map num))) kk = some (.lst ((ks.erase i).map num)) := upd_same
    generalize upd H kk (.lst ((ks.erase i).map num)) = H1 at *
    have kt1 : KT H H1 := fun c ys z => k1 _ _ (fun e => by rw [e, e3] at z; cases z) z
    have rb1 : RowB NB H1 o C CL ws.length ow pc (ks.erase i) st fs := ⟨⟨dx, t, p, kk, Nt, k1 _ _ okk e1, l1, l2, l3, l4, l5, nl, lf, lw.kp (fun c u h z => k1 _ _ (h.elim (fun h e => x4 (e ▸ h)) fun e => e ▸ tk) z), k1 _ _ x6 e2, e31, No, Nt', Np, Nk, sub, x1, x2, x3, x4, x6, x7⟩, rb.lp, rb.sz, rb.pl, fun a h => rb.kl a (List.mem_of_mem_erase h), rb.kr.sublist (List.erase_sublist ..)⟩
    have x1' := xt.kp (fun c u h z => k1 _ _ (fun e => dj kk Nk (e ▸ h)) z) kt1
    refine ⟨_, rfl, o, dx, fs, rfl, k1 _ _ okk e1, nl _ (by decide), _, rfl, NB, Ne, o, ws, ow, pc, vl, ks, od, st, fs, i, rfl, rb1, x1', dj, fun c h => ?_, fun c h => (r.laid c (se c h)).kp fun u z => k1 _ _ (fun e => dj kk Nk (e ▸ h)) z, hi, hk, h64, fun a H2 xs fs' Ne2 ha ea px rb2 xt2 dj2 lb2 ld2 f2 na nea k2 nn2 => ?_⟩
    · by_cases y : c = kk
      · rw [y]
        exact .lst e31
      · exact (r.laid c (sb c h)).kp fun u z => k1 _ _ y z
    have h0 : ∀ c, H1 c = none → H c = none := fun c h => by
      cases z : H c with
      | none => rfl
      | some u =>
        by_cases y : c = kk
        · rw [y, e31] at h
          cases h
        · rw [k1 _ _ y z] at h
          cases h
    let N2 : Addr → Prop := fun c => NB c ∨ Ne2 c
    have k02 : ∀ c u, ¬ N c → H c = some u → H2 c = some u := fun c u hc z => k2 _ _ (fun e => hc (sb _ (e ▸ No))) (fun e => hc (se c e)) (k1 _ _ (fun e => hc (e ▸ sb kk Nk)) z)
    have r2 : RowA N2 H2 o C CL ws ow pc vl (ks.erase i) (od.erase i) st := ⟨⟨NB, Ne2, fs', rb2, xt2, fun c h => .inl h, fun c h => .inr h, dj2⟩, r.lv, fun c h => h.elim (lb2 c) (ld2 c)⟩
    refine ⟨a, xs, rfl, .inl (SqL.of ea), fun b hb => ?_⟩
    have s3 := same_new (o := .lst xs) hb
    have nN2 : ¬ N2 b := fun h => (r2.laid b h).ne hb
    have n2 : H1 b = none := nn2 b hb
    exact q b _ xs N2 (h0 b n2) upd_same (px.kp fun c ys z => s3 _ _ z) (r2.same s3) nN2 (fun c u hc z => s3 _ _ (k02 c u hc z)) fun c h => h.elim (fun h => .inl (sb c h)) fun h => (f2 c h).imp (se c) (h0 c)
theorem ns_go : NScope ["self", "make", "__class__"] ["self", "make"] ["__class__"] (defScope s_Boxed_let_go) := nscope_by (by decide +kernel)
theorem ok_go {g : Addr} {fd : FuncData} (T : Txt K mg) (OC : RowC K C) (F : FnOk P w K mg base CX0 7 g fd ["self", "make"] (spGo C CL)) (hb : Binds K fd ["self", "make"] []) (S : SAt P K C "let_go" "Boxed.let_go" s_Boxed_let_go ["self", "make"] g) : Met P w K mg base 8 C "let_go" (spGo C CL) [] := by
  obtain ⟨f, cc, c, oc, od, doc, pm, an, ct, osl, sup, lk, me, bi⟩ := S.ex
  refine ⟨f, _, _, [], OC.cl, me, ?_, bi, .nil⟩
  refine okS_ret sup lk ns_go rfl (fun vs H Q E h => ?_) rfl F hb (by rfl) (fun L => by rfl) (fun L => by rfl) (fun L => by rfl) ?_
  · obtain ⟨N, o, ws, ow, pc, vl, ks, od, st, i, rfl, _⟩ := h
    rfl
  · rintro A outer s H vs Q E hr ⟨N, o, ws, ow, pc, vl, ks, od, st, i, rfl, r, rest⟩
    obtain ⟨dx, fs, e1, nl⟩ := r.ins
    exact ⟨o, dx, fs, E0, _, rfl, e1, pass0, (pa_cons (pv 1) pa_nil), _, rfl, N, o, ws, ow, pc, vl, ks, od, st, i, rfl, r, rest⟩
end
end K46
namespace K46
open PySem PySem.Spec PyProof.Rows L2 Gd Gs
open NdefX (NScope nscope_by ncx startF NF)
open C8 (clsBody Met pe_mt pe_mt0)
theorem Lw.off {C t : Addr} {N : Addr → Prop} {H : Hp} {ow : List Nat} (l : Lw C N H t ow) : Lw C (fun c => N c ∧ c ≠ t) H t ow := by
  obtain ⟨N1, N2, dx, q, fs, tw, e1, l1, lv, dis, i1, i2⟩ := l.ex
  obtain ⟨ls, h1, h2, h3, h4⟩ := lv.ex
  refine ⟨_, (fun c => N2 c ∧ c ≠ t), dx, q, fs, tw.cut, e1, l1, ⟨ls, h1, h2, ⟨h3, fun z => by rw [z, e1] at h1; cases h1⟩, fun i a ha => ?_⟩, fun c h1 h2 => dis c h1.1 h2.1, fun c h => ⟨i1 _ h.1, h.2.1⟩, fun c h => ⟨i2 _ h.1, h.2⟩⟩
  obtain ⟨a1, a2, ks, a3, a4⟩ := h4 i a ha
  exact ⟨⟨a1, fun z => by rw [z, e1] at a3; cases a3⟩, a2, ks, a3, a4⟩
section
variable {P : Program} {w : World} {K : PySem.W.Frag} {mg : Str → Option Value} {base : Heap} {C CL : Addr}
def spSame (C CL : Addr) : Sp := fun vs H Q _ => ∃ (N : Addr → Prop) (o o2 : Addr) (n : Nat) (ow pc ks : List Nat) (st : Int) (fs : List (Str × V)) (dx : Addr) (fs2 : List (Str × V)) (x1 x2 x3 x4 x5 : V), vs = [.ref o, .ref o2] ∧ RowB N H o C CL n ow pc ks st fs ∧ H o2 = some (.ins C dx fs2) ∧ fs2.lookup ("_row_size" : Str) = some x1 ∧ fs2.lookup ("_row_tree" : Str) = some x2 ∧ fs2.lookup ("_row_places" : Str) = some x3 ∧
  fs2.lookup ("_row_kept" : Str) = some x4 ∧ fs2.lookup ("_row_steps" : Str) = some x5 ∧ (∀ f, f ∉ rfields → fs2.lookup f = none) ∧ fs2.length < 100 ∧ ¬ N o2 ∧
  ∀ (H' : Hp) (N' : Addr → Prop) (fs3 : List (Str × V)), RowB N' H' o2 C CL n ow pc ks st fs3 → (∀ f, f ∉ bfields → fs3.lookup f = fs2.lookup f) → (∀ c u, c ≠ o2 → H c = some u → H' c = some u) → (∀ c, N' c → c = o2 ∨ H c = none) → Q (.ref o2) H'
theorem ok_same (T : Txt K mg) (OC : RowC K C) (m_copied : Met P w K mg base 6 CL "copied" (spCopied CL (Lw CL)) []) (M : MAt K C "same_makes" "Rows.same_makes" s_Rows_same_makes ["self", "other"]) : Met P w K mg base 7 C "same_makes" (spSame C CL) [] := by
  refine M.met OC.cl sc_Rows_same_makes (fun vs H Q E h => ?_) (fun f cdv A outer s H vs Q E hr h => ?_)
  · obtain ⟨N, o, o2, n, ow, pc, ks, st, fs, dx, fs2, x1, x2, x3, x4, x5, rfl, _⟩ := h
    rfl
  · obtain ⟨N, o, o2, n, ow, pc, ks, st, fs, dx2, fs2, x1, x2, x3, x4, x5, rfl, r, g0, j1, j2, j3, j4, j5, nl2, lf2, n2, q⟩ := h
    obtain ⟨dx, t, p, kk, Nt, e1, l1, l2, l3, l4, l5, nl, lf, lw, e2, e3, No, Nt', Np, Nk, sub, z1, z2, z3, z4, z6, z7⟩ := r.ex
    obtain ⟨dt, ft, et, nlt⟩ : ∃ dt ft, H t = some (.ins CL dt ft) ∧ ∀ m, m ∉ fields → ft.lookup m = none := by
      obtain ⟨dt, a, b, c, ft, e, _, _, _, nlt, _⟩ := lw.tr.ex
      exact ⟨dt, ft, e, nlt⟩
    have oo : o ≠ o2 := fun e => n2 (e ▸ No)
    have to : t ≠ o2 := fun e => n2 (e ▸ Nt')
    have po : p ≠ o2 := fun e => n2 (e ▸ Np)
    have ko : kk ≠ o2 := fun e => n2 (e ▸ Nk)
    refine ⟨_, (pss_cons (ps_fld (pv 1) (pe_fld (pv 0) rfl) rfl)
      (pss_cons (ps_fld (pv 1) (pe_mt0 m_copied hr (by decide) (pe_fld (pv 0) rfl)) rfl)
      (pss_cons (ps_fld (pv 1) (pe_callTy call_list_of (by rfl) T.t_list boot_list_ (pa_cons (pe_fld (pv 0) rfl) pa_nil)) rfl)
      (pss_cons (ps_fld (pv 1) (pe_callTy call_list_of (by rfl) T.t_list boot_list_ (pa_cons (pe_fld (pv 0) rfl) pa_nil)) rfl)
      (pss_cons (ps_fld (pv 1) (pe_fld (pv 0) rfl) rfl)
      (pss_one (ps_ret (pv 1)))))))), ?_⟩
    refine ⟨_, rfl, o, C, dx, fs, num n, rfl, e1, OC.cl, OC.n_size, l1, _, rfl, o2, C, dx2, fs2, rfl, g0, OC.cl, OC.n_size, by omega, ?_⟩
    have q1 := putF_len (v := num n) j1
    have k1 : ∀ c u, c ≠ o2 → H c = some u → (upd H o2 (.ins C dx2 (putF "_row_size" (num n) fs2))) c = some u := fun c u hc z => by
      rw [upd_ne hc]
      exact z
    have g1 : (upd H o2 (.ins C dx2 (putF "_row_size" (num n) fs2))) o2 = some (.ins C dx2 (putF "_row_size" (num n) fs2)) := upd_same
    have n1 : ∀ c, (upd H o2 (.ins C dx2 (putF "_row_size" (num n) fs2))) c = none → H c = none := fun c z => upd_none z
    generalize upd H o2 (.ins C dx2 (putF "_row_size" (num n) fs2)) = H1 at *
    have r1 := r.kp (H' := H1) fun c u hc z => k1 c u (fun e => n2 (e ▸ hc)) z
    have lw1 := lw.kp (H' := H1) fun c u hc z => k1 c u (hc.elim (fun h e => n2 (e ▸ sub c h)) fun e => e ▸ to) z
    refine ⟨_, rfl, o, C, dx, fs, .ref t, rfl, k1 _ _ oo e1, OC.cl, OC.n_tree, l2, t, dt, ft, rfl, k1 _ _ to et, nlt _ (by decide), t, ow, rfl, lw1.tr, fun u H2 Nu hu lu fu s2 => ?_⟩
    obtain ⟨Nu, lu, fu, nuu⟩ : ∃ Nv : Addr → Prop, Lw CL Nv H2 u ow ∧ (∀ c, Nv c → H1 c = none) ∧ ¬ Nv u := ⟨_, lu.off, fun c h => fu c h.1, fun h => h.2 rfl⟩
    have gu := s2 _ _ g1
    have uo : u ≠ o2 := (ne_of_none g1 hu).symm
    obtain ⟨du, fu', eu⟩ : ∃ dt ft, H2 u = some (.ins CL dt ft) := by
      obtain ⟨dt, a, b, c, ft, e, _⟩ := lu.tr.ex
      exact ⟨dt, ft, e⟩
    have j2' : (putF "_row_size" (num n) fs2).lookup ("_row_tree" : Str) = some x2 := by rw [lookup_putF, if_neg (by decide)]; exact j2
    have q2 := putF_len (v := .ref u) j2'
    refine ⟨_, rfl, o2, C, dx2, _, rfl, gu, OC.cl, OC.n_tree, by rw [q1]; omega, ?_⟩
    have k3 : ∀ c v, c ≠ o2 → H2 c = some v → (upd H2 o2 (.ins C dx2 (putF "_row_tree" (.ref u) (putF "_row_size" (num n) fs2)))) c = some v := fun c v hc z => by
      rw [upd_ne hc]
      exact z
    have g3 : (upd H2 o2 (.ins C dx2 (putF "_row_tree" (.ref u) (putF "_row_size" (num n) fs2)))) o2 = some (.ins C dx2 (putF "_row_tree" (.ref u) (putF "_row_size" (num n) fs2))) := upd_same
    have n3 : ∀ c, (upd H2 o2 (.ins C dx2 (putF "_row_tree" (.ref u) (putF "_row_size" (num n) fs2)))) c = none → H c = none := fun c z => n1 _ (none_of' s2 (upd_none z))
    generalize upd H2 o2 (.ins C dx2 (putF "_row_tree" (.ref u) (putF "_row_size" (num n) fs2))) = H3 at *
    have k03 : ∀ c v, c ≠ o2 → H c = some v → H3 c = some v := fun c v hc z => k3 _ _ hc (s2 _ _ (k1 _ _ hc z))
    have b2 := k03 _ _ po e2
    refine ⟨_, rfl, o, C, dx, fs, .ref p, rfl, k03 _ _ oo e1, OC.cl, OC.n_places, l3, p, _, rfl, .inl (SqL.of b2), fun a ha => ?_⟩
    have s4 := same_new (o := .lst (.non :: pc.map num)) ha
    have ea : (upd H3 a (.lst (.non :: pc.map num))) a = some (.lst (.non :: pc.map num)) := upd_same
    have ao : a ≠ o2 := (ne_of_none g3 ha).symm
    have ha0 := n3 _ ha
    have au : a ≠ u := fun e => by rw [e, k3 _ _ uo eu] at ha; cases ha
    generalize upd H3 a (.lst (.non :: pc.map num)) = H4 at *
    have j3' : (putF "_row_tree" (.ref u) (putF "_row_size" (num n) fs2)).lookup ("_row_places" : Str) = some x3 := by rw [lookup_putF, if_neg (by decide), lookup_putF, if_neg (by decide)]; exact j3
    have q3 := putF_len (v := .ref a) j3'
    refine ⟨_, rfl, o2, C, dx2, _, rfl, s4 _ _ g3, OC.cl, OC.n_places, by rw [q2, q1]; omega, ?_⟩
    have k5 : ∀ c v, c ≠ o2 → H4 c = some v → (upd H4 o2 (.ins C dx2 (putF "_row_places" (.ref a) (putF "_row_tree" (.ref u) (putF "_row_size" (num n) fs2))))) c = some v := fun c v hc z => by
      rw [upd_ne hc]
      exact z
    have g5 : (upd H4 o2 (.ins C dx2 (putF "_row_places" (.ref a) (putF "_row_tree" (.ref u) (putF "_row_size" (num n) fs2))))) o2 = some (.ins C dx2 (putF "_row_places" (.ref a) (putF "_row_tree" (.ref u) (putF "_row_size" (num n) fs2)))) := upd_same
    have n5 : ∀ c, (upd H4 o2 (.ins C dx2 (putF "_row_places" (.ref a) (putF "_row_tree" (.ref u) (putF "_row_size" (num n) fs2))))) c = none → H c = none := fun c z => n3 _ (none_of' s4 (upd_none z))
    generalize upd H4 o2 (.ins C dx2 (putF "_row_places" (.ref a) (putF "_row_tree" (.ref u) (putF "_row_size" (num n) fs2)))) = H5 at *
    have k05 : ∀ c v, c ≠ o2 → H c = some v → H5 c = some v := fun c v hc z => k5 _ _ hc (s4 _ _ (k03 _ _ hc z))
    refine ⟨_, rfl, o, C, dx, fs, .ref kk, rfl, k05 _ _ oo e1, OC.cl, OC.n_kept, l4, kk, _, rfl, .inl (SqL.of (k05 _ _ ko e3)), fun b hb => ?_⟩
    have s6 := same_new (o := .lst (ks.map num)) hb
    have eb : (upd H5 b (.lst (ks.map num))) b = some (.lst (ks.map num)) := upd_same
    have bo : b ≠ o2 := (ne_of_none g5 hb).symm
    have hb0 := n5 _ hb
    have ab : a ≠ b := ne_of_none (k5 _ _ ao ea) hb
    have bu : b ≠ u := fun e => by rw [e, k5 _ _ uo (s4 _ _ (k3 _ _ uo eu))] at hb; cases hb
    generalize upd H5 b (.lst (ks.map num)) = H6 at *
    have j4' : (putF "_row_places" (.ref a) (putF "_row_tree" (.ref u) (putF "_row_size" (num n) fs2))).lookup ("_row_kept" : Str) = some x4 := by rw [lookup_putF, if_neg (by decide), lookup_putF, if_neg (by decide), lookup_putF, if_neg (by decide)]; exact j4
    have q4 := putF_len (v := .ref b) j4'
    refine ⟨_, rfl, o2, C, dx2, _, rfl, s6 _ _ g5, OC.cl, OC.n_kept, by rw [q3, q2, q1]; omega, ?_⟩
    have k7 : ∀ c v, c ≠ o2 → H6 c = some v → (upd H6 o2 (.ins C dx2 (putF "_row_kept" (.ref b) (putF "_row_places" (.ref a) (putF "_row_tree" (.ref u) (putF "_row_size" (num n) fs2)))))) c = some v := fun c v hc z => by
      rw [upd_ne hc]
      exact z
    have g7 : (upd H6 o2 (.ins C dx2 (putF "_row_kept" (.ref b) (putF "_row_places" (.ref a) (putF "_row_tree" (.ref u) (putF "_row_size" (num n) fs2)))))) o2 = some (.ins C dx2 (putF "_row_kept" (.ref b) (putF "_row_places" (.ref a) (putF "_row_tree" (.ref u) (putF "_row_size" (num n) fs2))))) := upd_same
    generalize upd H6 o2 (.ins C dx2 (putF "_row_kept" (.ref b) (putF "_row_places" (.ref a) (putF "_row_tree" (.ref u) (putF "_row_size" (num n) fs2))))) = H7 at *
    have k07 : ∀ c v, c ≠ o2 → H c = some v → H7 c = some v := fun c v hc z => k7 _ _ hc (s6 _ _ (k05 _ _ hc z))
    have j5' : (putF "_row_kept" (.ref b) (putF "_row_places" (.ref a) (putF "_row_tree" (.ref u) (putF "_row_size" (num n) fs2)))).lookup ("_row_steps" : Str) = some x5 := by rw [lookup_putF, if_neg (by decide), lookup_putF, if_neg (by decide), lookup_putF, if_neg (by decide), lookup_putF, if_neg (by decide)]; exact j5
    have q5 := putF_len (v := .int st) j5'
    refine ⟨_, rfl, o, C, dx, fs, .int st, rfl, k07 _ _ oo e1, OC.cl, OC.n_steps, l5, _, rfl, o2, C, dx2, _, rfl, g7, OC.cl, OC.n_steps, by rw [q4, q3, q2, q1]; omega, ?_⟩
    have k8 : ∀ c v, c ≠ o2 → H7 c = some v → (upd H7 o2 (.ins C dx2 (putF "_row_steps" (.int st) (putF "_row_kept" (.ref b) (putF "_row_places" (.ref a) (putF "_row_tree" (.ref u) (putF "_row_size" (num n) fs2))))))) c = some v := fun c v hc z => by
      rw [upd_ne hc]
      exact z
    have g8 : (upd H7 o2 (.ins C dx2 (putF "_row_steps" (.int st) (putF "_row_kept" (.ref b) (putF "_row_places" (.ref a) (putF "_row_tree" (.ref u) (putF "_row_size" (num n) fs2))))))) o2 = some (.ins C dx2 (putF "_row_steps" (.int st) (putF "_row_kept" (.ref b) (putF "_row_places" (.ref a) (putF "_row_tree" (.ref u) (putF "_row_size" (num n) fs2)))))) := upd_same
    generalize upd H7 o2 (.ins C dx2 (putF "_row_steps" (.int st) (putF "_row_kept" (.ref b) (putF "_row_places" (.ref a) (putF "_row_tree" (.ref u) (putF "_row_size" (num n) fs2)))))) = H8 at *
    have k28 : ∀ c v, c ≠ o2 → H2 c = some v → H8 c = some v := fun c v hc z => k8 _ _ hc (k7 _ _ hc (s6 _ _ (k5 _ _ hc (s4 _ _ (k3 _ _ hc z)))))
    have fu0 : ∀ c, Nu c → H c = none ∧ c ≠ o2 := fun c h => by
      refine ⟨n1 _ (fu c h), fun e => ?_⟩
      have z := fu c h
      rw [e, g1] at z
      cases z
    have lu2 := lu.cut
    refine ⟨_, rfl, q H8 (fun c => c = o2 ∨ c = u ∨ c = a ∨ c = b ∨ (Nu c ∧ H2 c ≠ none)) _ ⟨⟨dx2, u, a, b, _, g8, ?_, ?_, ?_, ?_, ?_, fun g hg => ?_, by rw [q5, q4, q3, q2, q1]; exact lf2, lu2.kp (fun c v h z => k28 c v (h.elim (fun h => (fu0 c h.1).2) fun e => e ▸ uo) z), k8 _ _ ao (k7 _ _ ao (s6 _ _ (k5 _ _ ao ea))), k8 _ _ bo (k7 _ _ bo eb), .inl rfl, .inr (.inl rfl), .inr (.inr (.inl rfl)), .inr (.inr (.inr (.inl rfl))), fun c h => .inr (.inr (.inr (.inr h))), fun h => (fu0 o2 h.1).2 rfl, fun h => nuu h.1, fun h => ?_, fun h => ?_, ab, uo.symm⟩, r.lp, r.sz, r.pl, r.kl, r.kr⟩ (fun g hg => ?_) (fun c v hc z => k28 _ _ hc (s2 _ _ (k1 _ _ hc z))) fun c h => ?_⟩
    · rw [lookup_putF, if_neg (by decide), lookup_putF, if_neg (by decide), lookup_putF, if_neg (by decide), lookup_putF, if_neg (by decide), lookup_putF, if_pos rfl]
    · rw [lookup_putF, if_neg (by decide), lookup_putF, if_neg (by decide), lookup_putF, if_neg (by decide), lookup_putF, if_pos rfl]
    · rw [lookup_putF, if_neg (by decide), lookup_putF, if_neg (by decide), lookup_putF, if_pos rfl]
    · rw [lookup_putF, if_neg (by decide), lookup_putF, if_pos rfl]
    · rw [lookup_putF, if_pos rfl]
    · rw [lookup_putF, if_neg (fun z => hg (by rw [z]; decide)), lookup_putF, if_neg (fun z => hg (by rw [z]; decide)), lookup_putF, if_neg (fun z => hg (by rw [z]; decide)), lookup_putF, if_neg (fun z => hg (by rw [z]; decide)), lookup_putF, if_neg (fun z => hg (by rw [z]; decide))]
      exact nl2 g hg
    · obtain ⟨v, hv⟩ := Option.ne_none_iff_exists'.mp h.2
      rw [k3 _ _ ao hv] at ha
      cases ha
    · obtain ⟨v, hv⟩ := Option.ne_none_iff_exists'.mp h.2
      rw [k5 _ _ bo (s4 _ _ (k3 _ _ bo hv))] at hb
      cases hb
    · rw [lookup_putF, if_neg (fun z => hg (by rw [z]; decide)), lookup_putF, if_neg (fun z => hg (by rw [z]; decide)), lookup_putF, if_neg (fun z => hg (by rw [z]; decide)), lookup_putF, if_neg (fun z => hg (by rw [z]; decide)), lookup_putF, if_neg (fun z => hg (by rw [z]; decide))]
    · rcases h with rfl | rfl | rfl | rfl | h
      · exact .inl rfl
      · exact .inr (n1 _ hu)
      · exact .inr ha0
      · exact .inr hb0
      · exact .inr (fu0 c h.1).1
def spOrd (C CL : Addr) : Sp := fun vs H Q _ => ∃ (N : Addr → Prop) (o : Addr) (ws : List Int) (ow pc : List Nat) (vl : List Int) (ks od : List Nat) (st : Int), vs = [.ref o] ∧ RowA N H o C CL ws ow pc vl ks od st ∧
  ∀ (a : Addr) (H' : Hp), H a = none → H' a = some (.lst (od.map num)) → Same H H' → Q (.ref a) H'
theorem ok_ord (T : Txt K mg) (OC : RowC K C) (M : MAt K C "in_order" "Boxed.in_order" s_Boxed_in_order ["self"]) : Met P w K mg base 1 C "in_order" (spOrd C CL) [] := by
  refine M.met OC.cl sc_Boxed_in_order (fun vs H Q E h => ?_) (fun f cdv A outer s H vs Q E hr h => ?_)
  · obtain ⟨N, o, ws, ow, pc, vl, ks, od, st, rfl, _⟩ := h
    rfl
  · obtain ⟨N, o, ws, ow, pc, vl, ks, od, st, rfl, r, q⟩ := h
    obtain ⟨NB, Ne, fs, rb, xt, sb, se, dj⟩ := r.ex
    obtain ⟨dx, e1, nl⟩ := rb.ins
    obtain ⟨⟨rr, L, ps, lo, er, nr, lb, eL, _⟩, _⟩ := xt
    refine ⟨_, (pss_one (ps_ret (pe_callTy call_list_of (by rfl) T.t_list boot_list_ (pa_cons (pe_fld (pv 0) rfl) pa_nil)))), ?_⟩
    refine ⟨_, rfl, o, C, dx, fs, .ref rr, rfl, e1, OC.cl, OC.n_order, lo, rr, _, rfl, .inl (SqL.of er), fun a ha => ?_⟩
    exact q a _ ha upd_same (same_new ha)
def spWay (C : Addr) : Sp := fun vs H Q _ => ∃ u : V, vs = [u] ∧ Q (.str "boxed") H
theorem ok_way (T : Txt K mg) (OC : RowC K C) (M : MAt K C "way" "Boxed.way" s_Boxed_way ["self"]) : Met P w K mg base 1 C "way" (spWay C) [] := by
  refine M.met OC.cl sc_Boxed_way (fun vs H Q E h => ?_) (fun f cdv A outer s H vs Q E hr h => ?_)
  · obtain ⟨u, rfl, _⟩ := h
    rfl
  · obtain ⟨u, rfl, q⟩ := h
    exact ⟨_, (pss_one (ps_ret pe_str)), q⟩
end
end K46
set_option maxHeartbeats 1000000
namespace K46
open PySem PySem.Spec PyProof.Rows L2 Gd
open C8 (clsBody Met pe_mt pe_mt0)
theorem p30 : (10 : Int) ^ (30 : Int).toNat = 1000000000000000000000000000000 := by decide
theorem p29 : (10 : Int) ^ (29 : Int).toNat = 100000000000000000000000000000 := by decide
theorem p23 : (10 : Int) ^ (23 : Int).toNat = 100000000000000000000000 := by decide
theorem p8 : (10 : Int) ^ (8 : Int).toNat = 100000000 := by decide
theorem p7 : (10 : Int) ^ (7 : Int).toNat = 10000000 := by decide
section
variable {P : Program} {w : World} {K : PySem.W.Frag} {mg : Str → Option Value} {base : Heap} {C : Addr}
def spWt : Sp := fun vs H Q _ => ∃ (b : Addr) (m : Int), vs = [.ref b] ∧ BoxD H b m ∧ m ≤ 900000 ∧ ∀ (wt : Int) (H' : Hp), -big30 ≤ wt → wt ≤ big30 → BoxD H' b (m + 4) → (∀ c u, c ≠ b → H c = some u → H' c = some u) → Q (.int wt) H'
theorem ok_wt (T : Txt K mg) (c__law_take : CalG P w K mg base 1 "_law_take" spTakeD) (D : DefAt K mg "_law_worth" s__law_worth ["_law_box_here"]) : CalG P w K mg base 2 "_law_worth" spWt := by
  refine D.cal sc__law_worth (fun vs H Q E h => ?_) (fun f cdv A outer s H vs Q E hG hr h => ?_)
  · obtain ⟨b, m, rfl, _⟩ := h
    rfl
  · obtain ⟨b, m, rfl, hB, hm, q⟩ := h
    refine ⟨_, (pss_cons (ps_set (i := 1) sc__law_worth.nd rfl (Or.inl rfl) (pe_g c__law_take hG (hr.mono (by decide)) (by rfl) (pa_cons (pv 0) (pa_cons pe_int pa_nil))))
      (pss_cons (ps_set (i := 2) sc__law_worth.nd rfl (Or.inl rfl) (pe_op op_add (pe_op op_add (pe_op op_mul (pe_g c__law_take hG (hr.mono (by decide)) (by rfl) (pa_cons (pv 0) (pa_cons (pe_op op_pow pe_int pe_int) pa_nil))) (pe_op op_pow pe_int pe_int)) (pe_op op_mul (pe_g c__law_take hG (hr.mono (by decide)) (by rfl) (pa_cons (pv 0) (pa_cons (pe_op op_pow pe_int pe_int) pa_nil))) (pe_op op_pow pe_int pe_int))) (pe_g c__law_take hG (hr.mono (by decide)) (by rfl) (pa_cons (pv 0) (pa_cons (pe_op op_pow pe_int pe_int) pa_nil)))))
      (pss_one (ps_ret (pe_ix ix_list (pe_lst (pa_cons (pe_op op_sub (pe_op op_mod (pv 2) pe_int) pe_int) (pa_cons (pe_ix ix_list (pe_lst (pa_cons (pe_op op_sub (pe_op op_pow pe_int pe_int) pe_int) (pa_cons (pe_op op_sub pe_int (pe_op op_pow pe_int pe_int)) (pa_cons pe_int pa_nil)))) (pe_op op_mod (pv 2) pe_int) (fun _ _ => rfl)) (pa_cons (pe_op op_sub (pv 2) (pe_op op_pow pe_int pe_int)) pa_nil)))) (pv 1) (fun _ _ => rfl)))))), ?_⟩
    refine ⟨_, rfl, b, 3, m, rfl, hB, by omega, by decide, by decide, fun way H1 w0 w1 hB1 k1 => ?_⟩
    refine ⟨_, rfl, _, _, rfl, rfl, ⟨by decide, by decide, by decide⟩, b, 10 ^ (7 : Int).toNat, m + 1, rfl, hB1, by omega, by rw [p7]; decide, by rw [p7]; decide, fun x H2 x0 x1 hB2 k2 => ?_⟩
    rw [p7] at x1
    refine ⟨_, _, rfl, rfl, ⟨by decide, by decide, by decide⟩, _, _, rfl, rfl, .inl ⟨by omega, by omega⟩, ?_⟩
    refine ⟨_, rfl, _, _, rfl, rfl, ⟨by decide, by decide, by decide⟩, b, 10 ^ (7 : Int).toNat, m + 1 + 1, rfl, hB2, by omega, by rw [p7]; decide, by rw [p7]; decide, fun y H3 y0 y1 hB3 k3 => ?_⟩
    rw [p7] at y1
    refine ⟨_, _, rfl, rfl, ⟨by decide, by decide, by decide⟩, _, _, rfl, rfl, .inl ⟨by omega, by omega⟩, _, _, rfl, rfl, ?_⟩
    refine ⟨_, rfl, _, _, rfl, rfl, ⟨by decide, by decide, by decide⟩, b, 10 ^ (7 : Int).toNat, m + 1 + 1 + 1, rfl, hB3, by omega, by rw [p7]; decide, by rw [p7]; decide, fun z H4 z0 z1 hB4 k4 => ?_⟩
    rw [p7] at z1
    refine ⟨_, _, rfl, rfl, ?_⟩
    have nb0 : 0 ≤ x * 10 ^ (23 : Int).toNat + y * 10 ^ (8 : Int).toNat + z := by
      rw [p23, p8]
      omega
    have nb1 : x * 10 ^ (23 : Int).toNat + y * 10 ^ (8 : Int).toNat + z < 1000000000000000000000000000000 := by
      rw [p23, p8]
      omega
    rw [show ((fun (i j : Int) => V.int (i + j)) (x * 10 ^ (23 : Int).toNat + y * 10 ^ (8 : Int).toNat) z) = V.int (x * 10 ^ (23 : Int).toNat + y * 10 ^ (8 : Int).toNat + z) from rfl]
    generalize x * 10 ^ (23 : Int).toNat + y * 10 ^ (8 : Int).toNat + z = nr at *
    have k04 : ∀ c u, c ≠ b → H c = some u → H4 c = some u := fun c u hc w => (k4 c hc).trans ((k3 c hc).trans ((k2 c hc).trans ((k1 c hc).trans w)))
    refine ⟨_, rfl, _, _, rfl, rfl, (by decide : (0 : Int) < 7), _, _, rfl, rfl, _, _, rfl, rfl, ⟨by decide, by decide, by decide⟩, _, _, rfl, rfl, _, _, rfl, rfl, ⟨by decide, by decide, by decide⟩, _, _, rfl, rfl, (by show 3 ≤ sizeLine; decide), fun p1 hp1 => ?_⟩
    have s5 := same_new (o := .lst [.int (10 ^ (30 : Int).toNat - 1), .int (1 - 10 ^ (30 : Int).toNat), .int 0]) hp1
    have e5 : (upd H4 p1 (.lst [.int (10 ^ (30 : Int).toNat - 1), .int (1 - 10 ^ (30 : Int).toNat), .int 0])) p1 = some (.lst [.int (10 ^ (30 : Int).toNat - 1), .int (1 - 10 ^ (30 : Int).toNat), .int 0]) := upd_same
    generalize upd H4 p1 (.lst [.int (10 ^ (30 : Int).toNat - 1), .int (1 - 10 ^ (30 : Int).toNat), .int 0]) = H5 at *
    obtain ⟨w2, hw2, hat2⟩ : ∃ w2 : Int, (-big30 ≤ w2 ∧ w2 ≤ big30) ∧ atI [V.int (10 ^ (30 : Int).toNat - 1), V.int (1 - 10 ^ (30 : Int).toNat), V.int 0] (nr % 3) = some (.int w2) := by
      rcases (by omega : nr % 3 = 0 ∨ nr % 3 = 1 ∨ nr % 3 = 2) with h | h | h
      · rw [h]
        exact ⟨_, by rw [b30, p30]; decide, rfl⟩
      · rw [h]
        exact ⟨_, by rw [b30, p30]; decide, rfl⟩
      · rw [h]
        exact ⟨_, by rw [b30]; decide, rfl⟩
    refine ⟨_, rfl, _, _, rfl, rfl, (by decide : (0 : Int) < 3), p1, _, _, .int w2, rfl, rfl, SqL.of e5, hat2, ?_⟩
    refine ⟨_, rfl, _, _, rfl, rfl, ⟨by decide, by decide, by decide⟩, _, _, rfl, rfl, (by show 3 ≤ sizeLine; decide), fun p2 hp2 => ?_⟩
    have s6 := same_new (o := .lst [.int (nr % 7 - 3), .int w2, .int (nr - 10 ^ (29 : Int).toNat)]) hp2
    have e6 : (upd H5 p2 (.lst [.int (nr % 7 - 3), .int w2, .int (nr - 10 ^ (29 : Int).toNat)])) p2 = some (.lst [.int (nr % 7 - 3), .int w2, .int (nr - 10 ^ (29 : Int).toNat)]) := upd_same
    generalize upd H5 p2 (.lst [.int (nr % 7 - 3), .int w2, .int (nr - 10 ^ (29 : Int).toNat)]) = H6 at *
    obtain ⟨w3, hw3, hat3⟩ : ∃ w3 : Int, (-big30 ≤ w3 ∧ w3 ≤ big30) ∧ atI [V.int (nr % 7 - 3), V.int w2, V.int (nr - 10 ^ (29 : Int).toNat)] way = some (.int w3) := by
      rcases (by omega : way = 0 ∨ way = 1 ∨ way = 2) with rfl | rfl | rfl
      · exact ⟨_, by rw [b30]; omega, rfl⟩
      · exact ⟨_, hw2, rfl⟩
      · exact ⟨_, by rw [b30, p29]; omega, rfl⟩
    have s46 := s5.trans s6
    refine ⟨_, rfl, p2, _, _, .int w3, rfl, rfl, SqL.of e6, hat3, q w3 H6 hw3.1 hw3.2 ((hB4.kp fun u w => s46 _ _ w).up (by omega)) fun c u hc w => s46 _ _ (k04 c u hc w)⟩
def spWts : Sp := fun vs H Q _ => ∃ (b : Addr) (m : Int), vs = [.ref b] ∧ BoxD H b m ∧ m ≤ 800000 ∧ ∀ (a : Addr) (ws : List Int) (H' : Hp), H a = none → H' a = some (.lst (ws.map V.int)) → 1 ≤ ws.length → ws.length ≤ 16 → (∀ x, x ∈ ws → -big30 ≤ x ∧ x ≤ big30) → BoxD H' b (m + 100) → (∀ c u, c ≠ b → H c = some u → H' c = some u) → Q (.ref a) H'
theorem ok_wts (T : Txt K mg) (c__law_take : CalG P w K mg base 1 "_law_take" spTakeD) (c__law_worth : CalG P w K mg base 2 "_law_worth" spWt) (D : DefAt K mg "_law_worths" s__law_worths ["_law_box_here"]) : CalG P w K mg base 3 "_law_worths" spWts := by
  refine D.cal sc__law_worths (fun vs H Q E h => ?_) (fun f cdv A outer s H vs Q E hG hr h => ?_)
  · obtain ⟨b, m, rfl, _⟩ := h
    rfl
  · obtain ⟨b, m, rfl, hB, hm, q⟩ := h
    refine ⟨_, (pss_cons (ps_set (i := 1) sc__law_worths.nd rfl (Or.inl rfl) (pe_ix ix_list (pe_lst (pa_cons (pe_op op_add pe_int (pe_g c__law_take hG (hr.mono (by decide)) (by rfl) (pa_cons (pv 0) (pa_cons pe_int pa_nil)))) (pa_cons pe_int (pa_cons (pe_op op_add pe_int (pe_g c__law_take hG (hr.mono (by decide)) (by rfl) (pa_cons (pv 0) (pa_cons pe_int pa_nil)))) pa_nil)))) (pe_g c__law_take hG (hr.mono (by decide)) (by rfl) (pa_cons (pv 0) (pa_cons pe_int pa_nil))) (fun _ _ => rfl)))
      (pss_one (ps_ret (pe_lc (own := [("_law_k", 2)]) (g := gName 2) (tt := tYes) rfl sc__law_worths.nd (pi_range1 rfl T.b_range (pa_cons (pv 1) pa_nil)) (blkOk_by (own := [("_law_k", 2)]) (N := ["_law_box_here", "_law_size", "_law_k"]) (sc := defScope s__law_worths) (by decide +kernel)) (fun _ _ _ _ _ => pg_name (i := 2) sc__law_worths.nd rfl (Or.inl rfl)) (fun _ _ _ _ _ => pts_nil) (fun _ _ _ _ _ => (pe_g c__law_worth hG (hr.mono (by decide)) (by rfl) (pa_cons (pv 0) pa_nil))))))), ?_⟩
    refine ⟨_, rfl, b, 16, m, rfl, hB, by omega, by decide, by decide, fun x H1 x0 x1 hB1 k1 => ?_⟩
    refine ⟨_, _, rfl, rfl, _, rfl, b, 3, m + 1, rfl, hB1, by omega, by decide, by decide, fun y H2 y0 y1 hB2 k2 => ?_⟩
    refine ⟨_, _, rfl, rfl, (by show 3 ≤ sizeLine; decide), fun p1 hp1 => ?_⟩
    have s3 := same_new (o := .lst [.int (1 + x), .int 16, .int (1 + y)]) hp1
    have e3 : (upd H2 p1 (.lst [.int (1 + x), .int 16, .int (1 + y)])) p1 = some (.lst [.int (1 + x), .int 16, .int (1 + y)]) := upd_same
    have hB3 := hB2.kp fun u z => s3 _ _ z
    have pb := hB2.ne hp1
    generalize upd H2 p1 (.lst [.int (1 + x), .int 16, .int (1 + y)]) = H3 at *
    refine ⟨_, rfl, b, 3, m + 1 + 1, rfl, hB3, by omega, by decide, by decide, fun z H4 z0 z1 hB4 k4 => ?_⟩
    obtain ⟨n, hn, hat⟩ : ∃ n : Int, (1 ≤ n ∧ n ≤ 16) ∧ atI [V.int (1 + x), V.int 16, V.int (1 + y)] z = some (.int n) := by
      rcases (by omega : z = 0 ∨ z = 1 ∨ z = 2) with rfl | rfl | rfl
      · exact ⟨_, ⟨by omega, by omega⟩, rfl⟩
      · exact ⟨_, ⟨by omega, by omega⟩, rfl⟩
      · exact ⟨_, ⟨by omega, by omega⟩, rfl⟩
    refine ⟨p1, _, _, .int n, rfl, rfl, SqL.of ((k4 _ pb).trans e3), hat, ?_⟩
    have k04 : ∀ c u, c ≠ b → H c = some u → H4 c = some u := fun c u hc w => (k4 c hc).trans (s3 _ _ ((k2 c hc).trans ((k1 c hc).trans w)))
    refine ⟨_, rfl, _, rfl, by omega, by omega, fun B hB' => ?_⟩
    have nB : B ≠ b := hB4.ne hB'
    have hB0 : H B = none := by
      cases e : H B with
      | none => rfl
      | some u =>
        rw [k04 B u nB e] at hB'
        cases hB'
    refine lc_it (walk_range (lo := 0) (n := n.toNat)) (fun k H' => ∃ ws : List Int, H' B = some (.lst (ws.map V.int)) ∧ ws.length = k ∧ (∀ x, x ∈ ws → -big30 ≤ x ∧ x ≤ big30) ∧ BoxD H' b (m + 3 + 4 * (k : Nat)) ∧ (∀ c u, c ≠ b → H c = some u → H' c = some u)) ⟨[], upd_same, rfl, (fun x hx => by cases hx), ?_, fun c u hc w => ?_⟩ (fun k H' _ hP => trivial) (fun k v H5 H6 hk hP hY => ?_) (fun H5 hP => ?_)
    · exact (hB4.kp fun u w => by rw [upd_ne nB.symm]; exact w).up (by omega)
    · rw [upd_ne (ne_of_none w hB0)]
      exact k04 c u hc w
    · obtain ⟨ws, d5, hl, hw, hB5, k5⟩ := hP
      obtain ⟨rfl, rfl⟩ := hY
      refine ⟨rfl, yesI ?_⟩
      refine ⟨_, rfl, b, m + 3 + 4 * (k : Nat), rfl, hB5, by omega, fun wt H7 a1 a2 hB7 k7 => ?_⟩
      refine ⟨_, k7 _ _ nB d5, ?_, ws ++ [wt], ?_, by rw [List.length_append, hl]; rfl, fun x hx => ?_, ?_, fun c u hc w => ?_⟩
      · rw [List.length_map]
        exact small1000 (by omega)
      · rw [upd_same, List.map_append]
        rfl
      · rcases List.mem_append.mp hx with h | h
        · exact hw x h
        · rw [List.mem_singleton.mp h]
          exact ⟨a1, a2⟩
      · exact (hB7.kp fun u w => by rw [upd_ne nB.symm]; exact w).up (by omega)
      · rw [upd_ne (ne_of_none w hB0)]
        exact k7 c u hc (k5 c u hc w)
    · obtain ⟨ws, d5, hl, hw, hB5, k5⟩ := hP
      exact q B ws H5 hB0 d5 (by omega) (by omega) hw (hB5.up (by omega)) k5
end
end K46
namespace K46
open PySem PySem.Spec PyProof.Rows L2 Gd
open C8 (clsBody Met pe_mt pe_mt0)
theorem num2k {n : Nat} (h : n ≤ 2000) : Okd (.int (n : Nat)) 50 0 := okInt ⟨by
  have e : (10 : Int) ^ 40 = 10000000000000000000000000000000000000000 := by decide
  rw [e]
  omega, by
  have e : (10 : Int) ^ 40 = 10000000000000000000000000000000000000000 := by decide
  rw [e]
  omega⟩
theorem wtOk {n : Int} (h : -big30 ≤ n ∧ n ≤ big30) : Okd (.int n) 50 0 := okInt ⟨by
  have e : (10 : Int) ^ 40 = 10000000000000000000000000000000000000000 := by decide
  rw [e]
  have := b30
  omega, by
  have e : (10 : Int) ^ 40 = 10000000000000000000000000000000000000000 := by decide
  rw [e]
  have := b30
  omega⟩
/-- all worths are worths -/
structure Bg (ws vl : List Int) : Prop where
  w : ∀ x, x ∈ ws → -big30 ≤ x ∧ x ≤ big30
  v : ∀ x, x ∈ vl → -big30 ≤ x ∧ x ≤ big30
theorem big_getD {xs : List Int} (h : ∀ x, x ∈ xs → -big30 ≤ x ∧ x ≤ big30) (i : Nat) : -big30 ≤ xs.getD i 0 ∧ xs.getD i 0 ≤ big30 := by
  rw [List.getD_eq_getElem?_getD]
  cases e : xs[i]? with
  | none => exact (show -big30 ≤ (0 : Int) ∧ (0 : Int) ≤ big30 by decide)
  | some x => exact h x (List.mem_of_getElem? e)
theorem Bg.val {ws vl : List Int} (r : Bg ws vl) (ow pc : List Nat) (q i : Nat) : -big30 ≤ val ws ow pc vl q i ∧ val ws ow pc vl q i ≤ big30 := by
  unfold K46.val
  split
  · exact big_getD r.w _
  · exact big_getD r.v _
theorem intsOk {xs : List Int} (h : ∀ x ∈ xs, -big30 ≤ x ∧ x ≤ big30) (l : xs.length ≤ 100) : Okd (.list (xs.map PyData.int)) 10000 1 := by
  refine (okList (m := 50) (e := 0) (n := 100) (fun d hd => ?_) (by rw [List.length_map]; exact l)).up (by decide) (by decide)
  obtain ⟨x, hx, rfl⟩ := List.mem_map.mp hd
  exact wtOk (h x hx)
theorem Bg.row {ws vl : List Int} (r : Bg ws vl) (h : ws.length ≤ 16) (ow pc : List Nat) (i : Nat) : Okd (.list ((rowV ws ow pc vl i).map PyData.int)) 10000 1 := by
  refine intsOk (fun x hx => ?_) (by unfold rowV; rw [List.length_map, List.length_range]; omega)
  unfold rowV at hx
  obtain ⟨k, _, rfl⟩ := List.mem_map.mp hx
  exact r.val ow pc k i
theorem numsOk {xs : List Nat} (h : ∀ x ∈ xs, x ≤ 2000) (l : xs.length ≤ 200) : Okd (.list (xs.map fun n => PyData.int (n : Nat))) 20000 1 := by
  refine (okList (m := 50) (e := 0) (n := 200) (fun d hd => ?_) (by rw [List.length_map]; exact l)).up (by decide) (by decide)
  obtain ⟨x, hx, rfl⟩ := List.mem_map.mp hd
  exact num2k (h x hx)
theorem numsD {K : PySem.W.Frag} {H : Hp} : ∀ xs : List Nat, DpAll K H (xs.map num) (xs.map fun n => PyData.int (n : Nat))
  | [] => .nil
  | x :: xs => .cons (.int _) (numsD xs)
theorem dpInts {K : PySem.W.Frag} {H : Hp} : ∀ ns : List Int, DpAll K H (ns.map V.int) (ns.map PyData.int)
  | [] => .nil
  | n :: ns => .cons (.int n) (dpInts ns)
theorem wrt_zero (ow pc : List Nat) (q f : Nat) : wrt ow pc q f 0 = 0 := by
  cases f with
  | zero => rfl
  | succ f =>
    unfold wrt
    rw [if_pos rfl]
abbrev kR : Key := Sum.inr "rows"
abbrev kO : Key := Sum.inr "owners"
abbrev kW : Key := Sum.inr "wrote"
abbrev kK : Key := Sum.inr "kept"
/-- the law's model: its rows lie at S, for good -/
structure MdlR (M S : Addr → Prop) (H : Hp) (m : Addr) (ws : List Int) (ow pc : List Nat) (vl : List Int) (ks : List Nat) : Prop where
  ex : ∃ (a b c d : Addr) (kvs : List (Key × V)) (as : List Addr), H m = some (.dK kvs) ∧ kvs = [(kR, .ref a), (kO, .ref b), (kW, .ref c), (kK, .ref d)] ∧
    H a = some (.lst (as.map V.ref)) ∧ as.length = ow.length + 1 ∧ (∀ (i : Nat) (x : Addr), as[i]? = some x → S x ∧ H x = some (.lst ((rowV ws ow pc vl i).map V.int))) ∧ H b = some (.lst (.non :: ow.map num)) ∧ H c = some (.lst (.non :: pc.map num)) ∧ H d = some (.lst (ks.map num)) ∧
    M m ∧ M a ∧ M b ∧ M c ∧ M d ∧ a ≠ b ∧ a ≠ c ∧ a ≠ d ∧ b ≠ c ∧ b ≠ d ∧ c ≠ d
section
variable {M S S' : Addr → Prop} {H H' : Hp} {m : Addr} {ws : List Int} {ow pc : List Nat} {vl : List Int} {ks : List Nat}
theorem MdlR.kp (r : MdlR M S H m ws ow pc vl ks) (k : ∀ c u, (M c ∨ S c) → H c = some u → H' c = some u) : MdlR M S H' m ws ow pc vl ks := by
  obtain ⟨a, b, c, d, kvs, as, h0, v, h1, hl, hr, h2, h3, h4, m0, m1, m2, m3, m4, n⟩ := r.ex
  exact ⟨a, b, c, d, kvs, as, k _ _ (.inl m0) h0, v, k _ _ (.inl m1) h1, hl, fun i x hx => ⟨(hr i x hx).1, k _ _ (.inr (hr i x hx).1) (hr i x hx).2⟩, k _ _ (.inl m2) h2, k _ _ (.inl m3) h3, k _ _ (.inl m4) h4, m0, m1, m2, m3, m4, n⟩
theorem MdlR.same (r : MdlR M S H m ws ow pc vl ks) (s : Same H H') : MdlR M S H' m ws ow pc vl ks := r.kp fun c u _ z => s c u z
theorem MdlR.more (r : MdlR M S H m ws ow pc vl ks) (s : ∀ c, S c → S' c) : MdlR M S' H m ws ow pc vl ks := by
  obtain ⟨a, b, c, d, kvs, as, h0, v, h1, hl, hr, rest⟩ := r.ex
  exact ⟨a, b, c, d, kvs, as, h0, v, h1, hl, fun i x hx => ⟨s _ (hr i x hx).1, (hr i x hx).2⟩, rest⟩
end
theorem rowV_len (ws : List Int) (ow pc : List Nat) (vl : List Int) (i : Nat) : (rowV ws ow pc vl i).length = ws.length := by unfold rowV; rw [List.length_map, List.length_range]
theorem rowV_app {ws : List Int} {ow pc : List Nat} {vl : List Int} {i j : Nat} {x : Int} (low : Low ow) (lp : pc.length = ow.length) (lv : vl.length = ow.length) (h62 : ow.length ≤ 62) {k : Nat} (hk : k ≤ ow.length) : rowV ws (ow ++ [i]) (pc ++ [j]) (vl ++ [x]) k = rowV ws ow pc vl k :=
  List.map_congr_left fun q _ => val_app low lp lv h62 q k hk
theorem rowV_get {ws : List Int} {ow pc : List Nat} {vl : List Int} {i q : Nat} (h : q < ws.length) : (rowV ws ow pc vl i)[q]? = some (val ws ow pc vl q i) := by
  unfold rowV
  rw [List.getElem?_map, List.getElem?_range h]
  rfl
theorem rowV_new {ws : List Int} {ow pc : List Nat} {vl : List Int} {i j : Nat} {x : Int} (low : Low ow) (lp : pc.length = ow.length) (lv : vl.length = ow.length) (h62 : ow.length ≤ 62) (hi : i ≤ ow.length) : rowV ws (ow ++ [i]) (pc ++ [j]) (vl ++ [x]) (ow.length + 1) = (rowV ws ow pc vl i).set j x := by
  refine List.ext_getElem? fun q => ?_
  by_cases h : q < ws.length
  · rw [rowV_get h, val_new low lp lv h62 hi]
    by_cases z : j = q
    · subst z
      rw [if_pos rfl, List.getElem?_set_self (by rw [rowV_len]; exact h)]
    · rw [if_neg z, List.getElem?_set_ne z, rowV_get h]
  · rw [List.getElem?_eq_none (by rw [rowV_len]; omega), List.getElem?_eq_none (by rw [List.length_set, rowV_len]; omega)]
theorem rowV_first (ws : List Int) : rowV ws [] [] [] 0 = ws := by
  refine List.ext_getElem? fun q => ?_
  by_cases h : q < ws.length
  · rw [rowV_get h, List.getElem?_eq_getElem h]
    unfold val
    rw [wrt_none, if_pos rfl, List.getD_eq_getElem?_getD, List.getElem?_eq_getElem h]
    rfl
  · rw [List.getElem?_eq_none (by rw [rowV_len]; omega), List.getElem?_eq_none (by omega)]
theorem rowV_at {ws : List Int} {ow pc : List Nat} {vl : List Int} {i j : Nat} (h : j < ws.length) : atI ((rowV ws ow pc vl i).map V.int) ((j : Nat) : Int) = some (.int (val ws ow pc vl j i)) := by
  refine atI_nat ?_
  rw [List.getElem?_map, rowV_get h]
  rfl
section
variable {P : Program} {w : World} {K : PySem.W.Frag} {mg : Str → Option Value} {base : Heap} {C CL : Addr}
def spModelR : Sp := fun vs H Q _ => ∃ (a : Addr) (ws : List Int), vs = [.ref a] ∧ H a = some (.lst (ws.map V.int)) ∧ ∀ (m : Addr) (H' : Hp) (M S : Addr → Prop), MdlR M S H' m ws [] [] [] [0] → (∀ c, (M c ∨ S c) → H c = none ∧ H' c ≠ none) → (∀ c, M c → ¬ S c) → Same H H' → Q (.ref m) H'
theorem ok_modelR (T : Txt K mg) (D : DefAt K mg "_law_model" s__law_model ["_law_worths_here"]) : CalG P w K mg base 1 "_law_model" spModelR := by
  refine D.cal sc__law_model (fun vs H Q E h => ?_) (fun f cdv A outer s H vs Q E hG hr h => ?_)
  · obtain ⟨a, ws, rfl, _⟩ := h
    rfl
  · obtain ⟨a0, ws, rfl, e0, q⟩ := h
    refine ⟨_, (pss_one (ps_ret (pe_disp (pps_cons pe_str (pe_lst (pa_cons (pe_callTy call_list_of (by rfl) T.t_list boot_list_ (pa_cons (pv 0) pa_nil)) pa_nil)) (pps_cons pe_str (pe_lst (pa_cons pe_non pa_nil)) (pps_cons pe_str (pe_lst (pa_cons pe_non pa_nil)) (pps_cons pe_str (pe_lst (pa_cons pe_int pa_nil)) pps_nil)))) (by rfl) (by rfl) (fun z => by cases z) (by decide)))), ?_⟩
    intro m hm
    have s1 := same_new (o := .dK []) hm
    refine ⟨_, rfl, a0, _, rfl, .inl (SqL.of (s1 _ _ e0)), fun x hx => ⟨(by show 1 ≤ sizeLine; decide), fun a ha => ⟨(by show 1 ≤ sizeLine; decide), fun b hb => ⟨(by show 1 ≤ sizeLine; decide), fun c hc => ⟨(by show 1 ≤ sizeLine; decide), fun d hd => ?_⟩⟩⟩⟩⟩
    have em : (upd H m (.dK [])) m = some (.dK []) := upd_same
    have fm := hm
    generalize upd H m (.dK []) = H1 at *
    have s2 := same_new (o := .lst (ws.map V.int)) hx
    have ex : (upd H1 x (.lst (ws.map V.int))) x = some (.lst (ws.map V.int)) := upd_same
    generalize upd H1 x (.lst (ws.map V.int)) = H2 at *
    have s3 := same_new (o := .lst [V.ref x]) ha
    have ea : (upd H2 a (.lst [V.ref x])) a = some (.lst [V.ref x]) := upd_same
    generalize upd H2 a (.lst [V.ref x]) = H3 at *
    have s4 := same_new (o := .lst [.non]) hb
    have eb : (upd H3 b (.lst [.non])) b = some (.lst [.non]) := upd_same
    generalize upd H3 b (.lst [.non]) = H4 at *
    have s5 := same_new (o := .lst [.non]) hc
    have ec : (upd H4 c (.lst [.non])) c = some (.lst [.non]) := upd_same
    generalize upd H4 c (.lst [.non]) = H5 at *
    have s6 := same_new (o := .lst [V.int 0]) hd
    have ed : (upd H5 d (.lst [V.int 0])) d = some (.lst [V.int 0]) := upd_same
    generalize upd H5 d (.lst [V.int 0]) = H6 at *
    have em6 := s6 _ _ (s5 _ _ (s4 _ _ (s3 _ _ (s2 _ _ em))))
    refine ⟨em6, [(kR, .ref a), (kO, .ref b), (kW, .ref c), (kK, .ref d)], rfl, (by show 4 ≤ 15; decide), ?_⟩
    have k7 : ∀ x u, x ≠ m → H6 x = some u → (upd H6 m (.dK (mergeK [] [(kR, V.ref a), (kO, V.ref b), (kW, V.ref c), (kK, V.ref d)]))) x = some u := fun x u hc z => by
      rw [upd_ne hc]
      exact z
    have s16 := (((s2.trans s3).trans s4).trans s5).trans s6
    have nxm : x ≠ m := fun z => by rw [z, em] at hx; cases hx
    have nam : a ≠ m := fun z => by rw [z, s2 _ _ em] at ha; cases ha
    have nbm : b ≠ m := fun z => by rw [z, s3 _ _ (s2 _ _ em)] at hb; cases hb
    have ncm : c ≠ m := fun z => by rw [z, s4 _ _ (s3 _ _ (s2 _ _ em))] at hc; cases hc
    have ndm : d ≠ m := fun z => by rw [z, s5 _ _ (s4 _ _ (s3 _ _ (s2 _ _ em)))] at hd; cases hd
    have nax : a ≠ x := fun z => by rw [z, ex] at ha; cases ha
    have nbx : b ≠ x := fun z => by rw [z, s3 _ _ ex] at hb; cases hb
    have ncx : c ≠ x := fun z => by rw [z, s4 _ _ (s3 _ _ ex)] at hc; cases hc
    have ndx : d ≠ x := fun z => by rw [z, s5 _ _ (s4 _ _ (s3 _ _ ex))] at hd; cases hd
    have nba : b ≠ a := fun z => by rw [z, ea] at hb; cases hb
    have nca : c ≠ a := fun z => by rw [z, s4 _ _ ea] at hc; cases hc
    have nda : d ≠ a := fun z => by rw [z, s5 _ _ (s4 _ _ ea)] at hd; cases hd
    have ncb : c ≠ b := fun z => by rw [z, eb] at hc; cases hc
    have ndb : d ≠ b := fun z => by rw [z, s5 _ _ eb] at hd; cases hd
    have ndc : d ≠ c := fun z => by rw [z, ec] at hd; cases hd
    have f7 : ∀ y, y = m ∨ y = a ∨ y = b ∨ y = c ∨ y = d ∨ y = x → H y = none := fun y h => by
      rcases h with rfl | rfl | rfl | rfl | rfl | rfl
      · exact fm
      · exact none_of' (s1.trans s2) ha
      · exact none_of' ((s1.trans s2).trans s3) hb
      · exact none_of' (((s1.trans s2).trans s3).trans s4) hc
      · exact none_of' ((((s1.trans s2).trans s3).trans s4).trans s5) hd
      · exact none_of' s1 hx
    have ea7 := k7 _ _ nam (s6 _ _ (s5 _ _ (s4 _ _ ea)))
    have eb7 := k7 _ _ nbm (s6 _ _ (s5 _ _ eb))
    have ec7 := k7 _ _ ncm (s6 _ _ ec)
    have ed7 := k7 _ _ ndm ed
    have ex7 := k7 _ _ nxm (s6 _ _ (s5 _ _ (s4 _ _ (s3 _ _ ex))))
    refine q m _ (fun y => y = m ∨ y = a ∨ y = b ∨ y = c ∨ y = d) (fun y => y = x) ⟨a, b, c, d, _, [x], upd_same, rfl, ea7, rfl, fun i y hy => ?_, eb7, ec7, ed7, .inl rfl, .inr (.inl rfl), .inr (.inr (.inl rfl)), .inr (.inr (.inr (.inl rfl))), .inr (.inr (.inr (.inr rfl))), nba.symm, nca.symm, nda.symm, ncb.symm, ndb.symm, ndc.symm⟩ (fun y h => ?_) (fun y h e => ?_) fun y u z => k7 _ _ (ne_of_none z fm) (s16 _ _ (s1 _ _ z))
    · cases i with
      | zero =>
        cases hy
        exact ⟨rfl, by rw [rowV_first]; exact ex7⟩
      | succ i => cases hy
    · rcases h with (rfl | rfl | rfl | rfl | rfl) | rfl
      · exact ⟨f7 _ (.inl rfl), by rw [upd_same]; simp⟩
      · exact ⟨f7 _ (.inr (.inl rfl)), by rw [ea7]; simp⟩
      · exact ⟨f7 _ (.inr (.inr (.inl rfl))), by rw [eb7]; simp⟩
      · exact ⟨f7 _ (.inr (.inr (.inr (.inl rfl)))), by rw [ec7]; simp⟩
      · exact ⟨f7 _ (.inr (.inr (.inr (.inr (.inl rfl))))), by rw [ed7]; simp⟩
      · exact ⟨f7 _ (.inr (.inr (.inr (.inr (.inr rfl))))), by rw [ex7]; simp⟩
    · rw [e] at h
      rcases h with h | h | h | h | h
      · exact nxm h
      · exact nax h.symm
      · exact nbx h.symm
      · exact ncx h.symm
      · exact ndx h.symm
end
end K46
namespace K46
open PySem PySem.Spec PyProof.Rows L2 Gd
open C8 (clsBody Met pe_mt pe_mt0)
theorem set_num {xs : List Int} {j : Nat} (h : j < xs.length) : ixN (xs.map V.int).length ((j : Nat) : Int) = some j := by
  unfold ixN
  rw [List.length_map, if_pos (by omega), if_pos (by omega)]
  rfl
section
variable {P : Program} {w : World} {K : PySem.W.Frag} {mg : Str → Option Value} {base : Heap} {C CL : Addr}
def spWritten : Sp := fun vs H Q _ => ∃ (M S : Addr → Prop) (m : Addr) (ws : List Int) (ow pc : List Nat) (vl : List Int) (ks : List Nat) (i j : Nat) (x : Int), vs = [.ref m, num i, num j, .int x] ∧ MdlR M S H m ws ow pc vl ks ∧ (∀ c, M c → ¬ S c) ∧ Fit ws ow pc vl ∧ i ≤ ow.length ∧ j < ws.length ∧ ow.length < 63 ∧ ks.length ≤ 64 ∧
  ∀ (H' : Hp) (y : Addr), MdlR M (fun c => S c ∨ c = y) H' m ws (ow ++ [i]) (pc ++ [j]) (vl ++ [x]) (ks ++ [ow.length + 1]) → H y = none → H' y ≠ none → (∀ c u, ¬ M c → H c = some u → H' c = some u) → KT H H' → (∀ c, H c ≠ none → H' c ≠ none) → Q (num (ow.length + 1)) H'
theorem ok_written (T : Txt K mg) (D : DefAt K mg "_law_written" s__law_written ["_law_model_here", "_law_make", "_law_place", "_law_worth_here"]) : CalG P w K mg base 1 "_law_written" spWritten := by
  refine D.cal sc__law_written (fun vs H Q E h => ?_) (fun f cdv A outer s H vs Q E hG hr h => ?_)
  · obtain ⟨M, S, m, ws, ow, pc, vl, ks, i, j, x, rfl, _⟩ := h
    rfl
  · obtain ⟨M, S, m, ws, ow, pc, vl, ks, i, j, x, rfl, r, ms, ft, hi, hj, hlt, hks, q⟩ := h
    obtain ⟨a, b, c, d, kvs, as, h0, rfl, h1, hl, hr', h2, h3, h4, m0, m1, m2, m3, m4, nab, nac, nad, nbc, nbd, ncd⟩ := r.ex
    obtain ⟨xi, hxi⟩ : ∃ xi, as[i]? = some xi := ⟨as[i]'(by omega), List.getElem?_eq_getElem (by omega)⟩
    obtain ⟨sx, exi⟩ := hr' i xi hxi
    have lp := ft.lp
    have lv := ft.lv
    refine ⟨_, (pss_cons (ps_set (i := 4) sc__law_written.nd rfl (Or.inl rfl) (pe_callTy call_list_of (by rfl) T.t_list boot_list_ (pa_cons (pe_ix ix_list (pe_dget (hu_of hr) (pv 0) pe_str (fun _ _ => rfl)) (pv 1) (fun _ _ => rfl)) pa_nil)))
      (pss_cons (ps_asg (pv 3) (pg_sub (pv 4) (pv 2) set_list))
      (pss_cons (ps_expr (pe_bm PySem.F.plainAttrs_list PySem.F.slot_list_append PySem.F.type_list_append mt_append (pe_dget (hu_of hr) (pv 0) pe_str (fun _ _ => rfl)) (pa_cons (pv 4) pa_nil)))
      (pss_cons (ps_expr (pe_bm PySem.F.plainAttrs_list PySem.F.slot_list_append PySem.F.type_list_append mt_append (pe_dget (hu_of hr) (pv 0) pe_str (fun _ _ => rfl)) (pa_cons (pv 1) pa_nil)))
      (pss_cons (ps_expr (pe_bm PySem.F.plainAttrs_list PySem.F.slot_list_append PySem.F.type_list_append mt_append (pe_dget (hu_of hr) (pv 0) pe_str (fun _ _ => rfl)) (pa_cons (pv 2) pa_nil)))
      (pss_cons (ps_expr (pe_bm PySem.F.plainAttrs_list PySem.F.slot_list_append PySem.F.type_list_append mt_append (pe_dget (hu_of hr) (pv 0) pe_str (fun _ _ => rfl)) (pa_cons (pe_op op_sub (pe_callB call_len (by rfl) T.b_len boot_len_ (pa_cons (pe_dget (hu_of hr) (pv 0) pe_str (fun _ _ => rfl)) pa_nil)) pe_int) pa_nil)))
      (pss_one (ps_ret (pe_op op_sub (pe_callB call_len (by rfl) T.b_len boot_len_ (pa_cons (pe_dget (hu_of hr) (pv 0) pe_str (fun _ _ => rfl)) pa_nil)) pe_int))))))))), ?_⟩
    refine ⟨_, rfl, m, _, rfl, dgs h0 rfl, _, rfl, a, _, _, .ref xi, rfl, rfl, SqL.of h1, atI_nat (by rw [List.getElem?_map, hxi]; rfl), xi, _, rfl, .inl (SqL.of exi), fun y hy => ?_⟩
    have s1 := same_new (o := .lst ((rowV ws ow pc vl i).map V.int)) hy
    have ey : (upd H y (.lst ((rowV ws ow pc vl i).map V.int))) y = some (.lst ((rowV ws ow pc vl i).map V.int)) := upd_same
    generalize upd H y (.lst ((rowV ws ow pc vl i).map V.int)) = H1 at *
    have ny : ∀ z, M z → (∃ u, H z = some u) → z ≠ y := fun z _ h e => by
      obtain ⟨u, h⟩ := h
      rw [e, hy] at h
      cases h
    refine ⟨_, rfl, _, rfl, _, rfl, y, _, _, j, rfl, rfl, ey, set_num (by rw [rowV_len]; exact hj), ?_⟩
    have k2 : ∀ z u, z ≠ y → H1 z = some u → (upd H1 y (.lst (((rowV ws ow pc vl i).map V.int).set j (.int x)))) z = some u := fun z u hc e => by
      rw [upd_ne hc]
      exact e
    have ey2 : (upd H1 y (.lst (((rowV ws ow pc vl i).map V.int).set j (.int x)))) y = some (.lst ((rowV ws (ow ++ [i]) (pc ++ [j]) (vl ++ [x]) (ow.length + 1)).map V.int)) := by
      rw [upd_same, rowV_new ft.low lp lv (by omega) hi, List.map_set]
    generalize upd H1 y (.lst (((rowV ws ow pc vl i).map V.int).set j (.int x))) = H2 at *
    have k02 : ∀ z u, H z = some u → H2 z = some u := fun z u e => k2 _ _ (ne_of_none e hy) (s1 _ _ e)
    have mb : m ≠ b := fun z => by rw [z, h2] at h0; cases h0
    have mc : m ≠ c := fun z => by rw [z, h3] at h0; cases h0
    have md : m ≠ d := fun z => by rw [z, h4] at h0; cases h0
    have ma : m ≠ a := fun z => by rw [z, h1] at h0; cases h0
    have ya : y ≠ a := (ne_of_none h1 hy).symm
    have yb : y ≠ b := (ne_of_none h2 hy).symm
    have yc : y ≠ c := (ne_of_none h3 hy).symm
    have yd : y ≠ d := (ne_of_none h4 hy).symm
    refine ⟨_, rfl, m, _, rfl, dgs (k02 _ _ h0) rfl, .inl ⟨rfl, _, SqL.of (k02 _ _ h1)⟩, _, rfl, a, _, _, rfl, rfl, k02 _ _ h1, small1000 (by rw [List.length_map]; omega), ?_⟩
    have k3 : ∀ z u, z ≠ a → H2 z = some u → (upd H2 a (.lst (as.map V.ref ++ [V.ref y]))) z = some u := fun z u hc e => by
      rw [upd_ne hc]
      exact e
    have e3 : (upd H2 a (.lst (as.map V.ref ++ [V.ref y]))) a = some (.lst ((as ++ [y]).map V.ref)) := by
      rw [upd_same, List.map_append]
      rfl
    generalize upd H2 a (.lst (as.map V.ref ++ [V.ref y])) = H3 at *
    refine ⟨_, rfl, m, _, rfl, dgs (k3 _ _ ma (k02 _ _ h0)) rfl, .inl ⟨rfl, _, SqL.of (k3 _ _ nab.symm (k02 _ _ h2))⟩, _, rfl, b, _, _, rfl, rfl, k3 _ _ nab.symm (k02 _ _ h2), small1000 (by rw [List.length_cons, List.length_map]; omega), ?_⟩
    have k4 : ∀ z u, z ≠ b → H3 z = some u → (upd H3 b (.lst ((.non :: ow.map num) ++ [num i]))) z = some u := fun z u hc e => by
      rw [upd_ne hc]
      exact e
    have e4 : (upd H3 b (.lst ((.non :: ow.map num) ++ [num i]))) b = some (.lst (.non :: (ow ++ [i]).map num)) := by
      rw [upd_same, List.map_append]
      rfl
    generalize upd H3 b (.lst ((.non :: ow.map num) ++ [num i])) = H4 at *
    refine ⟨_, rfl, m, _, rfl, dgs (k4 _ _ mb (k3 _ _ ma (k02 _ _ h0))) rfl, .inl ⟨rfl, _, SqL.of (k4 _ _ nbc.symm (k3 _ _ nac.symm (k02 _ _ h3)))⟩, _, rfl, c, _, _, rfl, rfl, k4 _ _ nbc.symm (k3 _ _ nac.symm (k02 _ _ h3)), small1000 (by rw [List.length_cons, List.length_map]; omega), ?_⟩
    have k5 : ∀ z u, z ≠ c → H4 z = some u → (upd H4 c (.lst ((.non :: pc.map num) ++ [num j]))) z = some u := fun z u hc e => by
      rw [upd_ne hc]
      exact e
    have e5 : (upd H4 c (.lst ((.non :: pc.map num) ++ [num j]))) c = some (.lst (.non :: (pc ++ [j]).map num)) := by
      rw [upd_same, List.map_append]
      rfl
    generalize upd H4 c (.lst ((.non :: pc.map num) ++ [num j])) = H5 at *
    have a5 := k5 _ _ nac (k4 _ _ nab e3)
    have d5 := k5 _ _ ncd.symm (k4 _ _ nbd.symm (k3 _ _ nad.symm (k02 _ _ h4)))
    have m5 := k5 _ _ mc (k4 _ _ mb (k3 _ _ ma (k02 _ _ h0)))
    have hla : (as ++ [y]).length = ow.length + 2 := by rw [List.length_append, hl]; rfl
    refine ⟨_, rfl, m, _, rfl, dgs m5 rfl, .inl ⟨rfl, _, SqL.of d5⟩, _, rfl, m, _, rfl, dgs m5 rfl, .ref a, _, rfl, .inl ⟨_, SqL.of a5, rfl⟩, _, _, rfl, rfl, d, _, _, rfl, rfl, d5, small1000 (by rw [List.length_map]; omega), ?_⟩
    have el : V.int ((((as ++ [y]).map V.ref).length : Nat) - 1) = num (ow.length + 1) := by
      rw [List.length_map, hla]
      show V.int _ = V.int _
      congr 1
      omega
    rw [show ((fun (i j : Int) => V.int (i - j)) ((((as ++ [y]).map V.ref).length : Nat) : Int) 1) = num (ow.length + 1) from el]
    have k6 : ∀ z u, z ≠ d → H5 z = some u → (upd H5 d (.lst (ks.map num ++ [num (ow.length + 1)]))) z = some u := fun z u hc e => by
      rw [upd_ne hc]
      exact e
    have e6 : (upd H5 d (.lst (ks.map num ++ [num (ow.length + 1)]))) d = some (.lst ((ks ++ [ow.length + 1]).map num)) := by
      rw [upd_same, List.map_append]
      rfl
    generalize upd H5 d (.lst (ks.map num ++ [num (ow.length + 1)])) = H6 at *
    refine ⟨_, rfl, m, _, rfl, dgs (k6 _ _ md m5) rfl, .ref a, _, rfl, .inl ⟨_, SqL.of (k6 _ _ nad a5), rfl⟩, _, _, rfl, rfl, ?_⟩
    rw [show ((fun (i j : Int) => V.int (i - j)) ((((as ++ [y]).map V.ref).length : Nat) : Int) 1) = num (ow.length + 1) from el]
    have k26 : ∀ z u, z ≠ a → z ≠ b → z ≠ c → z ≠ d → H2 z = some u → H6 z = some u := fun z u z1 z2 z3 z4 e => k6 _ _ z4 (k5 _ _ z3 (k4 _ _ z2 (k3 _ _ z1 e)))
    have sn : ∀ z, S z → z ≠ a ∧ z ≠ b ∧ z ≠ c ∧ z ≠ d := fun z h => ⟨fun e => ms a m1 (e ▸ h), fun e => ms b m2 (e ▸ h), fun e => ms c m3 (e ▸ h), fun e => ms d m4 (e ▸ h)⟩
    have ey6 := k26 _ _ ya yb yc yd ey2
    refine q H6 y ⟨a, b, c, d, _, as ++ [y], k6 _ _ md m5, rfl, k6 _ _ nad a5, by rw [hla, List.length_append]; rfl, fun k z hz => ?_, k6 _ _ nbd (k5 _ _ nbc e4), k6 _ _ ncd e5, e6, m0, m1, m2, m3, m4, nab, nac, nad, nbc, nbd, ncd⟩ hy (by rw [ey6]; simp) (fun z u hz e => k26 _ _ (fun h => hz (h ▸ m1)) (fun h => hz (h ▸ m2)) (fun h => hz (h ▸ m3)) (fun h => hz (h ▸ m4)) (k02 _ _ e)) (fun z ys e => k26 _ _ (fun h => by rw [h, h1] at e; cases e) (fun h => by rw [h, h2] at e; cases e) (fun h => by rw [h, h3] at e; cases e) (fun h => by rw [h, h4] at e; cases e) (k02 _ _ e)) fun z hz => ?_
    rotate_left
    · by_cases za : z = a
      · rw [za, k6 _ _ nad a5]
        simp
      by_cases zb : z = b
      · rw [zb, k6 _ _ nbd (k5 _ _ nbc e4)]
        simp
      by_cases zc : z = c
      · rw [zc, k6 _ _ ncd e5]
        simp
      by_cases zd : z = d
      · rw [zd, e6]
        simp
      obtain ⟨u, hu⟩ := Option.ne_none_iff_exists'.mp hz
      rw [k26 _ _ za zb zc zd (k02 _ _ hu)]
      simp
    by_cases hk : k < as.length
    · rw [List.getElem?_append_left hk] at hz
      obtain ⟨z1, z2⟩ := hr' k z hz
      obtain ⟨n1, n2, n3, n4⟩ := sn z z1
      refine ⟨.inl z1, ?_⟩
      rw [rowV_app ft.low lp lv (by omega) (by omega)]
      exact k26 _ _ n1 n2 n3 n4 (k02 _ _ z2)
    · rw [List.getElem?_append_right (by omega)] at hz
      obtain ⟨rfl, rfl⟩ : k = ow.length + 1 ∧ z = y := by
        cases e : k - as.length with
        | zero =>
          rw [e] at hz
          cases hz
          exact ⟨by omega, rfl⟩
        | succ n =>
          rw [e] at hz
          cases hz
      exact ⟨.inr rfl, ey6⟩
def spOneOf : Sp := fun vs H Q _ => ∃ (b k : Addr) (n : Int) (ks : List Nat), vs = [.ref b, .ref k] ∧ BoxD H b n ∧ n ≤ 900000 ∧ H k = some (.lst (ks.map num)) ∧ ks ≠ [] ∧ ks.length ≤ 100 ∧ ∀ (i : Nat) (H' : Hp), i ∈ ks → BoxD H' b (n + 2) → (∀ c u, c ≠ b → H c = some u → H' c = some u) → Q (num i) H'
theorem kept_at {ks : List Nat} {k : Int} (h0 : -(ks.length : Int) ≤ k) (h1 : k < ks.length) : ∃ i : Nat, i ∈ ks ∧ atI (ks.map num) k = some (num i) := by
  by_cases z : 0 ≤ k
  · obtain ⟨v, hv, e⟩ := pickL (ks.map num) z (by rw [List.length_map]; exact h1)
    obtain ⟨i, hi, rfl⟩ := List.mem_map.mp hv
    exact ⟨i, hi, e⟩
  · obtain ⟨j, hj⟩ : ∃ j : Nat, (k + (ks.length : Int)).toNat = j := ⟨_, rfl⟩
    have hl : (ks.map num).length = ks.length := List.length_map ..
    have hj' : j < ks.length := by omega
    refine ⟨ks[j], List.getElem_mem hj', ?_⟩
    unfold atI ixN
    rw [if_neg z, hl, if_pos h0, hj]
    show (ks.map num)[j]? = _
    rw [List.getElem?_map, List.getElem?_eq_getElem hj']
    rfl
theorem ok_oneof (T : Txt K mg) (c__law_take : CalG P w K mg base 1 "_law_take" spTakeD) (D : DefAt K mg "_law_one_of" s__law_one_of ["_law_box_here", "_law_some"]) : CalG P w K mg base 2 "_law_one_of" spOneOf := by
  refine D.cal sc__law_one_of (fun vs H Q E h => ?_) (fun f cdv A outer s H vs Q E hG hr h => ?_)
  · obtain ⟨b, k, n, ks, rfl, _⟩ := h
    rfl
  · obtain ⟨b, k, n, ks, rfl, hB, hn, ek, ne, h100, q⟩ := h
    have kb : k ≠ b := fun e => by
      obtain ⟨_, _, _, _, hb, _⟩ := hB
      rw [e, hb] at ek
      cases ek
    have k0 : 0 < ks.length := List.length_pos_iff.mpr ne
    have hlen : (ks.map num).length = ks.length := List.length_map ..
    refine ⟨_, (pss_cons (ps_set (i := 2) sc__law_one_of.nd rfl (Or.inl rfl) (pe_g c__law_take hG (hr.mono (by decide)) (by rfl) (pa_cons (pv 0) (pa_cons pe_int pa_nil))))
      (pss_one (ps_ret (pe_ix ix_list (pe_lst (pa_cons (pe_ix ix_list (pv 1) (pe_g c__law_take hG (hr.mono (by decide)) (by rfl) (pa_cons (pv 0) (pa_cons (pe_callB call_len (by rfl) T.b_len boot_len_ (pa_cons (pv 1) pa_nil)) pa_nil))) (fun _ _ => rfl)) (pa_cons (pe_ix ix_list (pv 1) pe_int (fun _ _ => rfl)) (pa_cons (pe_ix ix_list (pv 1) (pe_un un_neg pe_int) (fun _ _ => rfl)) pa_nil)))) (pv 2) (fun _ _ => rfl))))), ?_⟩
    refine ⟨_, rfl, b, 3, n, rfl, hB, by omega, by decide, by decide, fun way H1 w0 w1 hB1 k1 => ?_⟩
    have e1 : H1 k = some (.lst (ks.map num)) := (k1 k kb).trans ek
    refine ⟨_, rfl, _, rfl, _, rfl, .ref k, _, rfl, .inl ⟨_, SqL.of e1, rfl⟩, b, _, n + 1, rfl, hB1, by omega, by rw [hlen]; omega, by rw [hlen]; omega, fun x H2 x0 x1 hB2 k2 => ?_⟩
    rw [hlen] at x1
    have e2 : H2 k = some (.lst (ks.map num)) := (k2 k kb).trans e1
    obtain ⟨i1, m1, a1⟩ := kept_at (ks := ks) (k := x) (by omega) (by omega)
    obtain ⟨i2, m2, a2⟩ := kept_at (ks := ks) (k := 0) (by omega) (by omega)
    obtain ⟨i3, m3, a3⟩ := kept_at (ks := ks) (k := -1) (by omega) (by omega)
    refine ⟨k, _, _, _, rfl, rfl, SqL.of e2, a1, _, rfl, k, _, _, _, rfl, rfl, SqL.of e2, a2, _, rfl, 1, rfl, k, _, _, _, rfl, rfl, SqL.of e2, a3, (by show 3 ≤ sizeLine; decide), fun p hp => ?_⟩
    have s3 := same_new (o := .lst [num i1, num i2, num i3]) hp
    have e3 : (upd H2 p (.lst [num i1, num i2, num i3])) p = some (.lst ([i1, i2, i3].map num)) := upd_same
    obtain ⟨i, hi, hat⟩ := kept_at (ks := [i1, i2, i3]) (k := way) (by show -(3 : Int) ≤ way; omega) (by show way < 3; omega)
    refine ⟨_, rfl, p, _, _, num i, rfl, rfl, SqL.of e3, hat, q i _ ?_ ((hB2.kp fun u z => s3 _ _ z).up (by omega)) fun c u hc z => s3 _ _ ((k2 c hc).trans ((k1 c hc).trans z))⟩
    simp only [List.mem_cons, List.not_mem_nil, or_false] at hi
    rcases hi with rfl | rfl | rfl
    · exact m1
    · exact m2
    · exact m3
def spLast : Sp := fun vs H Q _ => ∃ (M S : Addr → Prop) (m : Addr) (ws : List Int) (ow pc : List Nat) (vl : List Int) (ks : List Nat) (i j : Nat), vs = [.ref m, num i, num j] ∧ MdlR M S H m ws ow pc vl ks ∧ Fit ws ow pc vl ∧ i ≤ ow.length ∧ Q (num (wrt ow pc j 64 i)) H
theorem ok_last (T : Txt K mg) (D : DefAt K mg "_law_last" s__law_last ["_law_model_here", "_law_make", "_law_place"]) : CalG P w K mg base 1 "_law_last" spLast := by
  refine D.cal sc__law_last (fun vs H Q E h => ?_) (fun f cdv A outer s H vs Q E hG hr h => ?_)
  · obtain ⟨M, S, m, ws, ow, pc, vl, ks, i, j, rfl, _⟩ := h
    rfl
  · obtain ⟨M, S, m, ws, ow, pc, vl, ks, i, j, rfl, r, ft, hi, q⟩ := h
    obtain ⟨a, b, c, d, kvs, as, h0, rfl, h1, hl, hr', h2, h3, h4, _⟩ := r.ex
    have few := ft.few
    have lp := ft.lp
    refine ⟨_, (pss_cons (ps_while PassesOwn.never (PW.pt (pw_and (pt_cmpR op_gt (pv 1) pe_int (nomark _)) (pw_and1 (pt_cmpR op_ne (pe_ix ix_list (pe_dget (hu_of hr) (pv 0) pe_str (fun _ _ => rfl)) (pv 1) (fun _ _ => rfl)) (pv 2) (nomark _)))))
          (pss_one (ps_set (i := 1) sc__law_last.nd rfl (Or.inl rfl) (pe_ix ix_list (pe_dget (hu_of hr) (pv 0) pe_str (fun _ _ => rfl)) (pv 1) (fun _ _ => rfl)))))
      (pss_one (ps_ret (pv 1)))), ?_⟩
    refine ⟨fun k σ H' => ∃ f : Nat, σ = [some (.ref m), some (num k), some (num j)] ∧ H' = H ∧ k ≤ ow.length ∧ k ≤ f ∧ wrt ow pc j f k = wrt ow pc j 64 i, ⟨_, 64, rfl, rfl, hi, by omega, rfl⟩, ?_⟩
    rintro k σ H3 ⟨f0, rfl, rfl, hk, hf, hd⟩
    refine ⟨_, rfl, _, _, rfl, rfl, _, rfl, ?_⟩
    by_cases hk0 : k = 0
    · subst hk0
      rw [wrt_zero] at hd
      rw [← hd] at q
      rw [decide_eq_false (by omega)]
      exact iteF ⟨_, rfl, q⟩
    · rw [decide_eq_true (by omega)]
      refine iteT ?_
      refine ⟨_, rfl, m, _, rfl, dgs h0 rfl, _, rfl, c, _, _, num (pc.getD (k - 1) 0), rfl, rfl, SqL.of h3, at_pc hk0 (by omega), _, rfl, rfl, _, rfl, ?_⟩
      obtain ⟨f0, rfl⟩ : ∃ g, f0 = g + 1 := ⟨f0 - 1, by omega⟩
      rw [wrt, if_neg hk0] at hd
      by_cases hp : pc.getD (k - 1) 0 = j
      · rw [if_pos hp] at hd
        rw [hp, decide_eq_true rfl]
        rw [← hd] at q
        exact iteF ⟨_, rfl, q⟩
      · rw [if_neg hp] at hd
        rw [decide_eq_false (fun z => hp (num_eq z))]
        have hpl := par_lt ft.low (i := k) (by omega)
        refine iteT ⟨_, fun σ' H'' z => z, ?_⟩
        refine ⟨_, rfl, m, _, rfl, dgs h0 rfl, _, rfl, b, _, _, num (par ow k), rfl, rfl, SqL.of h2, at_own (by omega) hk, ?_⟩
        exact ⟨par ow k, hpl, f0, rfl, rfl, by omega, by omega, hd⟩
end
end K46
namespace K46
open PySem PySem.Spec PyProof.Rows L2 Gd
open C8 (clsBody Met pe_mt pe_mt0)
/-- a row and the law's model of it, apart -/
structure Hse (N M S : Addr → Prop) (H : Hp) (o m C CL : Addr) (ws : List Int) (ow pc : List Nat) (vl : List Int) (ks od : List Nat) (st : Int) : Prop where
  row : RowA N H o C CL ws ow pc vl ks od st
  md : MdlR M S H m ws ow pc vl ks
  nm : ∀ c, N c → ¬ M c
  ns : ∀ c, N c → ¬ S c
  ms : ∀ c, M c → ¬ S c
  ld : ∀ c, (M c ∨ S c) → H c ≠ none
  bg : Bg ws vl
  ne : ks ≠ []
section
variable {N M S : Addr → Prop} {H H' : Hp} {o m C CL : Addr} {ws : List Int} {ow pc : List Nat} {vl : List Int} {ks od : List Nat} {st : Int}
theorem Hse.kp (h : Hse N M S H o m C CL ws ow pc vl ks od st) (k : ∀ c u, (N c ∨ M c ∨ S c) → H c = some u → H' c = some u) (kt : KT H H') : Hse N M S H' o m C CL ws ow pc vl ks od st :=
  ⟨h.row.kp (fun c u hc z => k c u (.inl hc) z) kt, h.md.kp fun c u hc z => k c u (.inr hc) z, h.nm, h.ns, h.ms, (fun c hc z => by
    obtain ⟨u, hu⟩ := Option.ne_none_iff_exists'.mp (h.ld c hc)
    rw [k c u (.inr hc) hu] at z
    cases z), h.bg, h.ne⟩
theorem Hse.same (h : Hse N M S H o m C CL ws ow pc vl ks od st) (s : Same H H') : Hse N M S H' o m C CL ws ow pc vl ks od st := h.kp (fun c u _ z => s c u z) (KT.of s)
theorem Hse.kb {b : Addr} {n : Int} (h : Hse N M S H o m C CL ws ow pc vl ks od st) (hB : BoxD H b n) (nN : ¬ N b) (nM : ¬ M b) (nS : ¬ S b) (k : ∀ c u, c ≠ b → H c = some u → H' c = some u) : Hse N M S H' o m C CL ws ow pc vl ks od st :=
  h.kp (fun c u hc z => k c u (fun e => by
    rw [e] at hc
    exact hc.elim nN fun hc => hc.elim nM nS) z) fun c ys z => k c _ (fun e => by
    obtain ⟨_, _, _, _, hb, _⟩ := hB
    rw [e, hb] at z
    cases z) z
theorem Hse.few (h : Hse N M S H o m C CL ws ow pc vl ks od st) : ks.length ≤ ow.length + 1 := by
  obtain ⟨NB, fs, rb, _⟩ := h.row.b
  exact up_len rb.kr rb.kl
end
theorem nin_nums {i : Nat} : ∀ {xs : List Nat}, i ∉ xs → inV (num i) (xs.map num) = false
  | [], _ => rfl
  | x :: xs, h => by
    have ne : x ≠ i := fun e => h (e ▸ List.mem_cons_self ..)
    have ih := nin_nums (i := i) (xs := xs) fun z => h (List.mem_cons_of_mem _ z)
    unfold inV at *
    rw [List.map_cons, List.any_cons, ih, eq_num, decide_eq_false (fun e => ne (by first | exact e | exact e.symm | omega))]
    rfl
theorem joinH {Pre : Hp → Prop} {G : Prop} {R : Hp → Prop} (main : (∀ H3, Pre H3 → R H3) → G) (rest : ∀ H3, Pre H3 → R H3) : G := main rest
end K46
namespace K46
open PySem PySem.Spec PyProof.Rows L2 Gd
open C8 (clsBody Met pe_mt pe_mt0)
section
variable {P : Program} {w : World} {K : PySem.W.Frag} {mg : Str → Option Value} {base : Heap} {C CL : Addr}
def spPw (C CL : Addr) : Sp := fun vs H Q _ => ∃ (N M S : Addr → Prop) (b o m : Addr) (n : Int) (ws : List Int) (ow pc : List Nat) (vl : List Int) (ks od : List Nat) (st : Int), vs = [.ref b, .ref m, num ws.length] ∧ Hse N M S H o m C CL ws ow pc vl ks od st ∧ BoxD H b n ∧ n ≤ 700000 ∧ ¬ N b ∧ ¬ M b ∧ ¬ S b ∧
  ∀ (t : Addr) (H' : Hp) (i pq : Nat) (wv : Int), i ∈ ks → pq < ws.length → -big30 ≤ wv → wv ≤ big30 → H t = none → H' t = some (.tup [num i, num pq, .int wv]) → BoxD H' b (n + 20) → (∀ c u, c ≠ b → H c = some u → H' c = some u) → Q (.ref t) H'
theorem ok_pw (T : Txt K mg) (c__law_take : CalG P w K mg base 1 "_law_take" spTakeD) (c__law_worth : CalG P w K mg base 2 "_law_worth" spWt) (c__law_one_of : CalG P w K mg base 2 "_law_one_of" spOneOf)
    (D : DefAt K mg "_law_put" s__law_put ["_law_box_here", "_law_model_here", "_law_size"]) : CalG P w K mg base 3 "_law_put" (spPw C CL) := by
  refine D.cal sc__law_put (fun vs H Q E h => ?_) (fun f cdv A outer s H vs Q E hG hr h => ?_)
  · obtain ⟨N, M, S, b, o, m, n, ws, ow, pc, vl, ks, od, st, rfl, _⟩ := h
    rfl
  · obtain ⟨N, M, S, b, o, m, n, ws, ow, pc, vl, ks, od, st, rfl, hs, hB, hn, nN, nM, nS, q⟩ := h
    have ft := hs.row.fit
    have few := ft.few
    have sz := ft.sz
    have lks := hs.few
    have kl := hs.row.kl
    refine ⟨_, (pss_cons (ps_set (i := 3) sc__law_put.nd rfl (Or.inl rfl) (pe_g c__law_one_of hG (hr.mono (by decide)) (by rfl) (pa_cons (pv 0) (pa_cons (pe_dget (hu_of hr) (pv 1) pe_str (fun _ _ => rfl)) pa_nil))))
      (pss_cons (ps_set (i := 4) sc__law_put.nd rfl (Or.inl rfl) (pe_ix ix_list (pe_lst (pa_cons (pe_g c__law_take hG (hr.mono (by decide)) (by rfl) (pa_cons (pv 0) (pa_cons (pv 2) pa_nil))) (pa_cons pe_int (pa_cons (pe_op op_sub (pv 2) pe_int) pa_nil)))) (pe_g c__law_take hG (hr.mono (by decide)) (by rfl) (pa_cons (pv 0) (pa_cons pe_int pa_nil))) (fun _ _ => rfl)))
      (pss_cons (ps_set (i := 5) sc__law_put.nd rfl (Or.inl rfl) (pe_ix ix_list (pe_lst (pa_cons (pe_g c__law_worth hG (hr.mono (by decide)) (by rfl) (pa_cons (pv 0) pa_nil)) (pa_cons (pe_ix ix_list (pe_ix ix_list (pe_dget (hu_of hr) (pv 1) pe_str (fun _ _ => rfl)) (pv 3) (fun _ _ => rfl)) (pv 4) (fun _ _ => rfl)) pa_nil))) (pe_callTy call_int1 (by rfl) T.t_int boot_int_ (pa_cons (pe_cmpR op_eq (pe_g c__law_take hG (hr.mono (by decide)) (by rfl) (pa_cons (pv 0) (pa_cons pe_int pa_nil))) pe_int (nomark _)) pa_nil)) (fun _ _ => rfl)))
      (pss_one (ps_ret (pe_tup (pa_cons (pv 3) (pa_cons (pv 4) (pa_cons (pv 5) pa_nil))))))))), ?_⟩
    obtain ⟨a, rr, w_, d, kvs, as, h0, rfl, h1, hl, hr', h2, h3, h4, m0, m1, m2, m3, m4, _⟩ := id hs.md.ex
    refine ⟨_, rfl, _, rfl, m, _, rfl, dgs h0 rfl, b, d, n, ks, rfl, hB, by omega, h4, hs.ne, by omega, fun i H3 hik hB3 k3 => ?_⟩
    have hi := kl i hik
    refine ⟨_, rfl, _, rfl, b, (ws.length : Nat), n + 2, rfl, hB3, by omega, by omega, by omega, fun x H8 x0 x1 hB8 k8 => ?_⟩
    refine ⟨_, rfl, _, _, rfl, rfl, (by show 3 ≤ sizeLine; decide), fun p2 hp2 => ?_⟩
    have s9 := same_new (o := .lst [V.int x, V.int 0, V.int (((ws.length : Nat) : Int) - 1)]) hp2
    have ep2 : (upd H8 p2 (.lst [V.int x, V.int 0, V.int (((ws.length : Nat) : Int) - 1)])) p2 = some (.lst [V.int x, V.int 0, V.int (((ws.length : Nat) : Int) - 1)]) := upd_same
    have hB9 := hB8.kp (H' := upd H8 p2 (.lst [V.int x, V.int 0, V.int (((ws.length : Nat) : Int) - 1)])) fun u z => s9 _ _ z
    have p2b := hB8.ne hp2
    generalize upd H8 p2 (.lst [V.int x, V.int 0, V.int (((ws.length : Nat) : Int) - 1)]) = H9 at *
    refine ⟨_, rfl, b, 3, _, rfl, hB9, by omega, by decide, by decide, fun y H10 y0 y1 hB10 k10 => ?_⟩
    obtain ⟨pq, hq, hat⟩ : ∃ pq : Nat, pq < ws.length ∧ atI [V.int x, V.int 0, V.int (((ws.length : Nat) : Int) - 1)] y = some (num pq) := by
      rcases (by omega : y = 0 ∨ y = 1 ∨ y = 2) with rfl | rfl | rfl
      · refine ⟨x.toNat, by omega, ?_⟩
        rw [show num x.toNat = .int x from by show V.int _ = V.int _; congr 1; omega]
        rfl
      · exact ⟨0, by omega, rfl⟩
      · refine ⟨ws.length - 1, by omega, ?_⟩
        rw [show num (ws.length - 1) = .int (((ws.length : Nat) : Int) - 1) from by show V.int _ = V.int _; congr 1; omega]
        rfl
    refine ⟨p2, _, _, _, rfl, rfl, SqL.of ((k10 _ p2b).trans ep2), hat, ?_⟩
    have k010 : ∀ c u, c ≠ b → H c = some u → H10 c = some u := fun c u hc z => (k10 c hc).trans (s9 _ _ ((k8 c hc).trans (k3 c u hc z)))
    clear hat ep2 hp2 s9 hB9 k10 hB8 k8 H9 H8
    refine ⟨_, rfl, b, _, rfl, hB10, by omega, fun wt H11 w0 w1 hB11 k11 => ?_⟩
    have k011 : ∀ c u, c ≠ b → H c = some u → H11 c = some u := fun c u hc z => k11 _ _ hc (k010 _ _ hc z)
    have hs11 := hs.kb hB nN nM nS k011
    obtain ⟨a, rr, w_, d, kvs, as, h0, rfl, h1, hl, hr', h2, h3, h4, m0, m1, m2, m3, m4, _⟩ := hs11.md.ex
    obtain ⟨xi, hxi⟩ : ∃ xi, as[i]? = some xi := ⟨as[i]'(by omega), List.getElem?_eq_getElem (by omega)⟩
    obtain ⟨sx, exi⟩ := hr' _ xi hxi
    refine ⟨_, rfl, m, _, rfl, dgs h0 rfl, _, rfl, a, _, _, .ref xi, rfl, rfl, SqL.of h1, atI_nat (by rw [List.getElem?_map, hxi]; rfl), ?_⟩
    refine ⟨_, rfl, xi, _, _, _, rfl, rfl, SqL.of exi, rowV_at hq, (by show 2 ≤ sizeLine; decide), fun p3 hp3 => ?_⟩
    have s12 := same_new (o := .lst [V.int wt, V.int (val ws ow pc vl pq i)]) hp3
    have ep3 : (upd H11 p3 (.lst [V.int wt, V.int (val ws ow pc vl pq i)])) p3 = some (.lst [V.int wt, V.int (val ws ow pc vl pq i)]) := upd_same
    have hB12 := hB11.kp (H' := upd H11 p3 (.lst [V.int wt, V.int (val ws ow pc vl pq i)])) fun u z => s12 _ _ z
    have p3b := hB11.ne hp3
    generalize upd H11 p3 (.lst [V.int wt, V.int (val ws ow pc vl pq i)]) = H12 at *
    refine ⟨_, rfl, b, 4, _, rfl, hB12, by omega, by decide, by decide, fun z H13 z0 z1 hB13 k13 => ⟨rfl, .inr ⟨_, rfl, ?_⟩⟩⟩
    generalize decide (V.int z = V.int 0) = bz
    obtain ⟨wv, hw1, hw2, hat⟩ : ∃ wv : Int, -big30 ≤ wv ∧ wv ≤ big30 ∧ atI [V.int wt, V.int (val ws ow pc vl pq i)] (if bz = true then 1 else 0) = some (.int wv) := by
      cases bz with
      | false => exact ⟨wt, w0, w1, rfl⟩
      | true => exact ⟨_, (hs.bg.val ow pc pq i).1, (hs.bg.val ow pc pq i).2, rfl⟩
    have k013 : ∀ c u, c ≠ b → H c = some u → H13 c = some u := fun c u hc z => (k13 c hc).trans (s12 _ _ (k011 _ _ hc z))
    refine ⟨p3, _, _, _, rfl, rfl, SqL.of ((k13 _ p3b).trans ep3), hat, ?_⟩
    refine ⟨_, rfl, _, rfl, _, rfl, (by show 3 ≤ sizeLine; decide), fun t ht => ?_⟩
    have s14 := same_new (o := .tup [num i, num pq, .int wv]) ht
    have ht3 : H t = none := by
      cases y : H t with
      | none => rfl
      | some u =>
        rw [k013 t u (hB13.ne ht) y] at ht
        cases ht
    exact q t _ i pq wv hik hq hw1 hw2 ht3 upd_same ((hB13.kp fun u z => s14 _ _ z).up (by omega)) fun c u hc z => s14 _ _ (k013 c u hc z)
end
end K46
namespace K46
open PySem PySem.Spec PyProof.Rows L2 Gd Gs Gx Ge
open C8 (clsBody Met pe_mt pe_mt0)
theorem boot_sum_ : bootBuiltins "sum" = some (.builtin "sum") := by decide +kernel
theorem wrt_le {ow : List Nat} (low : Low ow) (pc : List Nat) (q : Nat) : ∀ f k : Nat, wrt ow pc q f k ≤ k
  | 0, k => Nat.le_refl _
  | f + 1, k => by
    by_cases h0 : k = 0
    · rw [h0, wrt_zero]
      exact Nat.le_refl _
    · rw [wrt, if_neg h0]
      split
      · exact Nat.le_refl _
      · exact Nat.le_trans (wrt_le low pc q f _) (Nat.le_of_lt (par_lt low (by omega)))

/-! ### all makes by their coming -/
def comeN (ow : List Nat) : Nat → List Nat
  | 0 => [0]
  | n + 1 => insO (comeN ow n) (ow.getD n 0) (n + 1)
def come (ow : List Nat) : List Nat := comeN ow ow.length
def odK (ow ks : List Nat) : List Nat := (come ow).filter fun k => decide (k ∈ ks)
theorem comeN_mem (ow : List Nat) : ∀ n k : Nat, k ∈ comeN ow n ↔ k ≤ n
  | 0, k => by
    show k ∈ [0] ↔ _
    rw [List.mem_singleton]
    omega
  | n + 1, k => by
    show k ∈ insO _ _ _ ↔ _
    rw [insO_mem, comeN_mem ow n k]
    omega
theorem comeN_nd (ow : List Nat) : ∀ n : Nat, (comeN ow n).Nodup
  | 0 => List.nodup_cons.mpr ⟨by simp, List.nodup_nil⟩
  | n + 1 => (insO_perm _ _ _).nodup_iff.mpr (List.nodup_append.mpr ⟨comeN_nd ow n, List.pairwise_singleton _ _, fun x hx y hy e => by
    have h1 := (comeN_mem ow n x).mp hx
    have h2 := List.mem_singleton.mp hy
    omega⟩)
theorem comeN_app (ow : List Nat) (i : Nat) : ∀ n : Nat, n ≤ ow.length → comeN (ow ++ [i]) n = comeN ow n
  | 0, _ => rfl
  | n + 1, h => by
    show insO (comeN (ow ++ [i]) n) _ _ = insO (comeN ow n) _ _
    rw [comeN_app ow i n (by omega)]
    congr 1
    rw [List.getD_eq_getElem?_getD, List.getD_eq_getElem?_getD, List.getElem?_append_left (by omega)]
theorem come_app (ow : List Nat) (i : Nat) : come (ow ++ [i]) = insO (come ow) i (ow.length + 1) := by
  unfold come
  rw [List.length_append]
  show insO (comeN (ow ++ [i]) ow.length) _ _ = _
  rw [comeN_app ow i _ (Nat.le_refl _)]
  congr 1
  rw [List.getD_eq_getElem?_getD, List.getElem?_append_right (Nat.le_refl _), Nat.sub_self]
  rfl
theorem insO_split {A B : List Nat} {i : Nat} (n : Nat) (h : i ∉ A) : insO (A ++ i :: B) i n = A ++ i :: n :: B := by
  have e : (A ++ i :: B).idxOf i = A.length := by
    rw [List.idxOf_append, if_neg h]
    simp
  unfold insO
  rw [e, List.take_append, List.drop_append]
  rw [List.take_of_length_le (by omega), List.drop_of_length_le (by omega), show A.length + 1 - A.length = 1 by omega]
  simp
theorem insO_filter {c : List Nat} {p : Nat → Bool} {i n : Nat} (h : i ∈ c) (pi : p i = true) (pn : p n = true) : (insO c i n).filter p = insO (c.filter p) i n := by
  obtain ⟨A, B, rfl, hA⟩ := List.eq_append_cons_of_mem h
  rw [insO_split n hA, List.filter_append, List.filter_append, List.filter_cons, List.filter_cons, List.filter_cons, if_pos pi, if_pos pn, if_pos pi]
  rw [insO_split n fun z => hA (List.mem_filter.mp z).1]
theorem odK_put {ow ks : List Nat} {i : Nat} (hi : i ≤ ow.length) (hk : i ∈ ks) (kl : ∀ k, k ∈ ks → k ≤ ow.length) : odK (ow ++ [i]) (ks ++ [ow.length + 1]) = insO (odK ow ks) i (ow.length + 1) := by
  unfold odK
  rw [come_app, insO_filter (show i ∈ come ow from (comeN_mem ow _ i).mpr hi) (decide_eq_true (List.mem_append.mpr (.inl hk))) (decide_eq_true (List.mem_append.mpr (.inr (List.mem_singleton.mpr rfl))))]
  congr 1
  refine List.filter_congr fun k hk' => ?_
  have := (comeN_mem ow _ k).mp hk'
  by_cases h : k ∈ ks
  · rw [decide_eq_true h, decide_eq_true (List.mem_append.mpr (.inl h))]
  · rw [decide_eq_false h, decide_eq_false fun z => (List.mem_append.mp z).elim h fun z => by
      have := List.mem_singleton.mp z
      omega]
theorem odK_go {ow ks : List Nat} {i : Nat} (nd : ks.Nodup) : odK ow (ks.erase i) = (odK ow ks).erase i := by
  unfold odK
  have nd2 : ((come ow).filter fun k => decide (k ∈ ks)).Nodup := List.Pairwise.filter _ (comeN_nd ow _)
  rw [List.Nodup.erase_eq_filter nd2, List.filter_filter]
  refine List.filter_congr fun k _ => ?_
  by_cases h : k ∈ ks
  · by_cases e : k = i
    · subst e
      rw [decide_eq_false fun z => (nd.mem_erase_iff.mp z).1 rfl]
      simp
    · rw [decide_eq_true (nd.mem_erase_iff.mpr ⟨e, h⟩), decide_eq_true h]
      simp [e]
  · rw [decide_eq_false fun z => h (nd.mem_erase_iff.mp z).2, decide_eq_false h]
    simp
theorem odK_zero : odK [] [0] = [0] := rfl
theorem odK_all {ow ks : List Nat} {i : Nat} (hi : i ≤ ow.length) (hk : i ∈ ks) (kl : ∀ k, k ∈ ks → k ≤ ow.length) : ∀ k : Nat, odA (odK ow ks) ow.length i k = odK (ow ++ os ow.length i k) (ks ++ nums ow.length k)
  | 0 => by
    rw [show ow ++ os ow.length i 0 = ow from List.append_nil _, show ks ++ nums ow.length 0 = ks from List.append_nil _]
    rfl
  | k + 1 => by
    show insO (odA (odK ow ks) ow.length i k) _ _ = _
    rw [odK_all hi hk kl k, os_succ, nums_succ, ← List.append_assoc, ← List.append_assoc]
    have e : (ow ++ os ow.length i k).length + 1 = ow.length + 1 + k := by
      rw [List.length_append, os_len]
      omega
    have h := odK_put (ow := ow ++ os ow.length i k) (ks := ks ++ nums ow.length k) (i := onM ow.length i k) (by rw [List.length_append, os_len]; exact onM_le hi) (onM_mem hk) fun x hx => by
      rw [List.length_append, os_len]
      rcases List.mem_append.mp hx with h | h
      · have := kl x h
        omega
      · exact (nums_mem h).2
    rw [e] at h
    exact h.symm
theorem odK_pos {ow ks : List Nat} (kl : ∀ k, k ∈ ks → k ≤ ow.length) {k : Nat} : k ∈ odK ow ks ↔ k ∈ ks := by
  unfold odK
  rw [List.mem_filter, decide_eq_true_eq]
  exact ⟨fun h => h.2, fun h => ⟨(comeN_mem ow _ k).mpr (kl k h), h⟩⟩
theorem rbox_len (ws vl : List Int) (q : Nat) (wf : Nat → Nat) (od : List Nat) : (rbox ws vl q wf od).length ≤ od.length := by
  unfold rbox pos
  rw [List.length_map]
  refine Nat.le_trans (List.length_filter_le ..) ?_
  rw [List.length_range]
  exact Nat.le_refl _
section
variable {P : Program} {w : World} {K : PySem.W.Frag} {mg : Str → Option Value} {base : Heap} {C CL CP fK CE : Addr}
abbrev bxT (ws : List Int) (ow pc : List Nat) (vl : List Int) (od : List Nat) (q : Nat) : List T3 := rbox ws vl q (wrt ow pc q 64) od
def lensN (ws : List Int) (ow pc : List Nat) (vl : List Int) (od : List Nat) : List Nat := (List.range ws.length).map fun q => (bxT ws ow pc vl od q).length
theorem RowA.odl {N : Addr → Prop} {H : Hp} {o C CL : Addr} {ws : List Int} {ow pc : List Nat} {vl : List Int} {ks od : List Nat} {st : Int} (r : RowA N H o C CL ws ow pc vl ks od st) : od.Perm ks ∧ ks.length ≤ ow.length + 1 := by
  obtain ⟨NB, Ne, fs, rb, xt, _⟩ := r.ex
  exact ⟨xt.pm, up_len rb.kr rb.kl⟩
def spBoxA (C CL : Addr) : Sp := fun vs H Q _ => ∃ (N : Addr → Prop) (o : Addr) (ws : List Int) (ow pc : List Nat) (vl : List Int) (ks od : List Nat) (st : Int) (j : Nat), vs = [.ref o, num j] ∧ RowA N H o C CL ws ow pc vl ks od st ∧ j < ws.length ∧
  ∀ (a : Addr) (H' : Hp) (xs : List V), H a = none → H' a = some (.lst xs) → T3X H' xs (bxT ws ow pc vl od j) → Same H H' → Q (.ref a) H'
theorem ok_boxA (T : Txt K mg) (OC : RowC K C) (m_need_place : Met P w K mg base 2 C "need_place" (spNeedPl C CL) []) (M : MAt K C "box" "Boxed.box" s_Boxed_box ["self", "place"]) : Met P w K mg base 3 C "box" (spBoxA C CL) [] := by
  refine M.met OC.cl sc_Boxed_box (fun vs H Q E h => ?_) (fun f cdv A outer s H vs Q E hr h => ?_)
  · obtain ⟨N, o, ws, ow, pc, vl, ks, od, st, j, rfl, _⟩ := h
    rfl
  · obtain ⟨N, o, ws, ow, pc, vl, ks, od, st, j, rfl, r, hj, q⟩ := h
    obtain ⟨NB, Ne, fs, rb, xt, sb, se, dj⟩ := r.ex
    obtain ⟨dx, e1, nl⟩ := rb.ins
    obtain ⟨r0, d, bs, l0, er, nr, l, ed, nd, rd, odn, h1, h3, h3', h4, h5, h6⟩ := xt.w.ex
    obtain ⟨b, hb⟩ : ∃ b, bs[j]? = some b := ⟨bs[j], List.getElem?_eq_getElem (by omega)⟩
    obtain ⟨xs, eb, cx⟩ := h6 j b hb
    refine ⟨_, (pss_cons (ps_expr (pe_mt m_need_place hr (by decide) (pv 0) (pa_cons (pv 1) pa_nil)))
      (pss_one (ps_ret (pe_callTy call_list_of (by rfl) T.t_list boot_list_ (pa_cons (pe_ix ix_list (pe_fld (pv 0) rfl) (pv 1) (fun _ _ => rfl)) pa_nil))))), ?_⟩
    refine ⟨_, rfl, o, dx, fs, rfl, e1, nl _ (by decide), _, rfl, NB, o, ws.length, ow, pc, ks, st, fs, j, rfl, rb, hj, ?_⟩
    refine ⟨_, rfl, o, C, dx, fs, .ref d, rfl, e1, OC.cl, OC.n_boxes, l, _, rfl, d, _, _, .ref b, rfl, rfl, SqL.of ed, atI_nat (by rw [List.getElem?_map, hb]; rfl), b, _, rfl, .inl (SqL.of eb), fun a ha => ?_⟩
    have s1 := same_new (o := .lst xs) ha
    exact q a _ xs ha upd_same (cx.kp (KT.of s1)) s1
def spRoomN (C CL : Addr) : Sp := fun vs H Q _ => ∃ (N : Addr → Prop) (o : Addr) (ws : List Int) (ow pc : List Nat) (vl : List Int) (ks od : List Nat) (st : Int), vs = [.ref o] ∧ RowA N H o C CL ws ow pc vl ks od st ∧ ∀ H', Same H H' → Q (.int ((lensN ws ow pc vl od).map fun n : Nat => (n : Int)).sum) H'
theorem ok_roomN (T : Txt K mg) (OC : RowC K C) (M : MAt K C "room" "Boxed.room" s_Boxed_room ["self"]) : Met P w K mg base 1 C "room" (spRoomN C CL) [] := by
  refine M.met OC.cl sc_Boxed_room (fun vs H Q E h => ?_) (fun f cdv A outer s H vs Q E hr h => ?_)
  · obtain ⟨N, o, ws, ow, pc, vl, ks, od, st, rfl, _⟩ := h
    rfl
  · obtain ⟨N, o, ws, ow, pc, vl, ks, od, st, rfl, r, q⟩ := h
    obtain ⟨NB, Ne, fs, rb, xt, sb, se, dj⟩ := r.ex
    obtain ⟨dx, e1, nl⟩ := rb.ins
    obtain ⟨r0, d, bs, l0, er, nr, l, ed, nd, rd, odn, h1, h3, h3', h4, h5, h6⟩ := xt.w.ex
    refine ⟨_, (pss_one (ps_ret (pe_callB (cr_sum rfl) (by rfl) T.b_sum boot_sum_ (pa_cons (pe_lc (own := [("box", 1)]) (g := gName 1) (tt := tYes) rfl sc_Boxed_room.nd (pi_list (pe_fld (pv 0) rfl)) (blkOk_by (own := [("box", 1)]) (N := ["self", "box"]) (sc := defScope s_Boxed_room) (by decide +kernel)) (fun _ _ _ _ _ => pg_name (i := 1) sc_Boxed_room.nd rfl (Or.inl rfl)) (fun _ _ _ _ _ => pts_nil) (fun _ _ _ _ _ => (pe_callB (show CallR _ (.builtin "len") (fun xs H Q => ∃ x n, xs = [x] ∧ LenV K x H n ∧ Q (.int (n : Nat)) H) from call_len) (by rfl) T.b_len boot_len_ (pa_cons (pv 1) pa_nil)))) pa_nil)))), ?_⟩
    refine ⟨_, rfl, o, C, dx, fs, .ref d, rfl, e1, OC.cl, OC.n_boxes, l, d, rfl, ⟨_, SqL.of ed⟩, fun B hB => ?_⟩
    refine lc_it (walk_list (xs := bs.map V.ref)) (fun n H' => Same H H' ∧ H' B = some (.lst ((((lensN ws ow pc vl od).take n).map fun n : Nat => (n : Int)).map V.int))) ⟨same_new hB, upd_same⟩ (fun n H' _ hP => SqL.of (hP.1 _ _ ed)) (fun n v H1 H2 hn hP hY => ?_) (fun H1 hP => ?_)
    · obtain ⟨rfl, hv⟩ := hY
      obtain ⟨s1, eB⟩ := hP
      rw [List.getElem?_map] at hv
      obtain ⟨b, hb, rfl⟩ := Option.map_eq_some_iff.mp hv
      have hn2 : n < bs.length := by
        by_cases h : n < bs.length
        · exact h
        · rw [List.getElem?_eq_none (by omega)] at hb
          cases hb
      obtain ⟨xs, eb, cx⟩ := h6 n b hb
      have hlen : xs.length = (bxT ws ow pc vl od n).length := cx.len
      refine ⟨rfl, yesI ?_⟩
      refine ⟨_, rfl, .ref b, _, rfl, .inl ⟨_, SqL.of (s1 _ _ eb), rfl⟩, _, eB, ?_, fun c u z => ?_, ?_⟩
      · rw [List.length_map, List.length_map, List.length_take]
        exact small1000 (by have := r.fit.sz; omega)
      · rw [upd_ne (ne_of_none z hB)]
        exact s1 _ _ z
      · have hl : (lensN ws ow pc vl od)[n]? = some xs.length := by
          unfold lensN
          rw [List.getElem?_map, List.getElem?_range (by omega), hlen]
          rfl
        rw [upd_same, List.take_add_one, hl]
        simp
    · obtain ⟨s1, eB⟩ := hP
      rw [show (bs.map V.ref).length = (lensN ws ow pc vl od).length from by
        unfold lensN
        rw [List.length_map, List.length_map, List.length_range, h1], List.take_length] at eB
      exact ⟨B, _, rfl, SqL.of eB, q H1 s1⟩
theorem MAt.metX {m qual : Str} {st : Stmt} {N ps : List Str} {k : Nat} {sp : Sp} (M : MAt K C m qual st ps) (cl : Cls K C) (S : FnScope N ps (defScope st))
    (ar : ∀ vs H Q E, sp vs H Q E → vs.length = ps.length)
    (bd : ∀ (f : Addr) (cdv : Value) (A : Around) (outer : List Env) (s : Shared) (H : Hp) (vs : List V) (Q : VK) (E : XK), Room k (A.deeper (envOfC qual (defScope st) s.heap.objs.size f cdv)) → sp vs H Q E →
      ∃ t, PSs (cxOf (L2.CX P w) P w K mg base N qual (defScope st) f cdv A outer s H E) (defBody st) t ∧ t { nx := fun _ H' => Q .non H', rt := Q } (start N vs) H) : MetX P w K mg base (k + 1) C m sp := by
  obtain ⟨f, fd, F, me, b⟩ := M.ex
  exact ⟨f, fd, ps, cl, me, F.okX S ar (bd f), b⟩
def wholeD (d : PyData) (lo hi : Int) : Bool := match d with
  | .int n => decide (lo ≤ n) && decide (n ≤ hi)
  | _ => false
theorem d1Int {H : Hp} {v : V} {n : Int} (h : D1 K H v (.int n)) : v = .int n := by
  cases h with
  | dp h =>
    cases h
    rfl
def spWhole (K : PySem.W.Frag) : Sp := fun vs H Q _ => ∃ (v : V) (d : PyData) (lo hi : Int), vs = [v, .int lo, .int hi] ∧ D1 K H v d ∧ Q (.bl (wholeD d lo hi)) H
theorem chain_end {lo n hi : Int} {Q : VK} {H : Hp} (q : Q (.bl (wholeD (.int n) lo hi)) H) :
    (if decide (lo ≤ n) = true then Q (.bl (decide (n ≤ hi))) H else Q (.bl false) H) := by
  have e : wholeD (.int n) lo hi = (decide (lo ≤ n) && decide (n ≤ hi)) := rfl
  rw [e] at q
  by_cases hl : lo ≤ n
  · rw [decide_eq_true hl] at q ⊢
    exact iteT q
  · rw [decide_eq_false hl] at q ⊢
    exact iteF q
theorem ok_whole (T : Txt K mg) (D : DefAt K mg "is_whole" s_is_whole ["thing", "low", "high"]) : C8.Cal P w K mg base 1 "is_whole" (spWhole K) [] := by
  obtain ⟨f, fd, F, m, b⟩ := D.ex
  refine ⟨f, fd, _, [], F.ok sc_is_whole (fun vs H Q E h => ?_) (fun cdv A outer s H vs Q E hr h => ?_), m, F.kp, b, .nil⟩
  · obtain ⟨v, d, lo, hi, rfl, _⟩ := h
    rfl
  · obtain ⟨v, d, lo, hi, rfl, hd, q⟩ := h
    have ty := tyD hd
    refine ⟨_, (pss_one (ps_ret (pe_and (pe_callB call_isi (by rfl) T.b_isinstance boot_isinstance_ (pa_cons (pv 0) (pa_cons (pe_bltn (v := .ty "int") (by rfl) T.t_int boot_int_ rfl) pa_nil))) (pe_and (pe_not (pe_callB call_isi (by rfl) T.b_isinstance boot_isinstance_ (pa_cons (pv 0) (pa_cons (pe_bltn (v := .ty "bool") (by rfl) T.t_bool boot_bool_ rfl) pa_nil)))) (pe_one (pe_chain op_le op_le (pv 1) (pv 0) (pv 2))))))), ?_⟩
    refine ⟨_, rfl, v, .ty "int", _, .type "int", _, rfl, .ty _, ty, kInt d, _, rfl, ?_⟩
    cases d with
    | int n =>
      cases d1Int hd
      refine iteT ?_
      refine ⟨_, rfl, _, .ty "bool", _, .type "bool", _, rfl, .ty _, ty, kBool _, _, rfl, _, rfl, ?_⟩
      refine iteT ?_
      refine ⟨_, rfl, _, rfl, _, _, rfl, rfl, _, rfl, ?_⟩
      have z := chain_end (Q := Q) q
      split
      · rename_i hl
        rw [if_pos hl] at z
        exact ⟨_, rfl, _, _, rfl, rfl, z⟩
      · rename_i hl
        rw [if_neg hl] at z
        exact z
    | bool x =>
      refine iteT ?_
      refine ⟨_, rfl, _, .ty "bool", _, .type "bool", _, rfl, .ty _, ty, kBool _, _, rfl, _, rfl, ?_⟩
      exact iteF q
    | none => exact iteF q
    | str x => exact iteF q
    | list x => exact iteF q
    | tuple x => exact iteF q
    | dict x => exact iteF q
end
end K46
namespace K46
open PySem PySem.Spec PyProof.Rows L2 Gd Gs Gx Ge
open C8 (clsBody Met pe_mt pe_mt0)
theorem comeN_len (ow : List Nat) : ∀ n : Nat, (comeN ow n).length = n + 1
  | 0 => rfl
  | n + 1 => by
    show (insO _ _ _).length = _
    rw [(insO_perm _ _ _).length_eq, List.length_append, comeN_len ow n]
    rfl
theorem bx_nil (ws vl : List Int) (q : Nat) (wf : Nat → Nat) : rbox ws vl q wf [] = [] := rfl
/-- one make more -/
theorem beg_app (wf : Nat → Nat) (od : List Nat) (k i : Nat) (h : i < od.length) : beg wf (od ++ [k]) i = beg wf od i := by
  unfold beg
  rw [List.getD_eq_getElem?_getD, List.getD_eq_getElem?_getD, List.getElem?_append_left (by omega), List.getElem?_append_left h, ← List.getD_eq_getElem?_getD, ← List.getD_eq_getElem?_getD]
theorem rbox_snoc (ws vl : List Int) (q : Nat) (wf : Nat → Nat) (od : List Nat) (k : Nat) : rbox ws vl q wf (od ++ [k]) = rbox ws vl q wf od ++ (if beg wf (od ++ [k]) od.length = true then [trip ws vl q wf k] else []) := by
  unfold rbox pos
  rw [List.length_append, show od.length + [k].length = od.length + 1 from rfl, List.range_succ, List.filter_append, List.map_append]
  congr 1
  · rw [List.filter_congr (q := beg wf od) fun i hi => beg_app wf od k i (List.mem_range.mp hi)]
    refine List.map_congr_left fun i hi => ?_
    have hi := List.mem_range.mp (List.mem_filter.mp hi).1
    rw [List.getD_eq_getElem?_getD, List.getElem?_append_left hi, ← List.getD_eq_getElem?_getD]
  · rw [List.filter_cons]
    split
    · rw [List.filter_nil]
      show [trip ws vl q wf ((od ++ [k]).getD od.length 0)] = _
      rw [List.getD_eq_getElem?_getD, List.getElem?_append_right (Nat.le_refl _), Nat.sub_self]
      rfl
    · rfl
/-- the writer of the last run is that of the last make -/
theorem rbox_last (ws vl : List Int) (q : Nat) (wf : Nat → Nat) : ∀ (n : Nat) (od : List Nat), od.length = n + 1 → ∃ (cs : List T3) (c : T3), rbox ws vl q wf od = cs ++ [c] ∧ c.2.1 = wf (od.getD n 0)
  | n, od, h => by
    obtain ⟨od', k, rfl⟩ : ∃ od' k, od = od' ++ [k] := ⟨od.dropLast, od.getLast (fun e => by rw [e] at h; cases h), (List.dropLast_concat_getLast _).symm⟩
    have hl : od'.length = n := by
      rw [List.length_append] at h
      exact Nat.succ.inj h
    have hk : (od' ++ [k]).getD n 0 = k := by
      rw [List.getD_eq_getElem?_getD, List.getElem?_append_right (by omega), hl, Nat.sub_self]
      rfl
    rw [rbox_snoc, hk]
    by_cases b : beg wf (od' ++ [k]) od'.length = true
    · rw [if_pos b]
      exact ⟨_, _, rfl, rfl⟩
    · rw [if_neg b, List.append_nil]
      match n, hl with
      | 0, hl =>
        exfalso
        refine b ?_
        unfold beg
        rw [hl]
        rfl
      | n + 1, hl =>
        obtain ⟨cs, c, e1, e2⟩ := rbox_last ws vl q wf n od' hl
        refine ⟨cs, c, e1, e2.trans ?_⟩
        unfold beg at b
        rw [hl] at b
        have b2 := (Bool.or_eq_false_iff.mp (Bool.eq_false_iff.mpr b)).2
        have b3 := Decidable.not_not.mp (of_decide_eq_false b2)
        rw [hk, show n + 1 - 1 = n by omega, List.getD_eq_getElem?_getD, List.getElem?_append_left (by omega), ← List.getD_eq_getElem?_getD] at b3
        exact b3
section
variable {P : Program} {w : World} {K : PySem.W.Frag} {mg : Str → Option Value} {base : Heap} {C CL : Addr}
def spCome : Sp := fun vs H Q _ => ∃ (M S : Addr → Prop) (m : Addr) (ws : List Int) (ow pc : List Nat) (vl : List Int) (ks : List Nat), vs = [.ref m] ∧ MdlR M S H m ws ow pc vl ks ∧ Fit ws ow pc vl ∧
  ∀ (a : Addr) (H' : Hp), H a = none → H' a = some (.lst ((come ow).map num)) → Same H H' → Q (.ref a) H'
theorem ok_come (T : Txt K mg) (D : DefAt K mg "_law_come" s__law_come ["_law_model_here"]) : CalG P w K mg base 1 "_law_come" spCome := by
  refine D.cal sc__law_come (fun vs H Q E h => ?_) (fun f cdv A outer s H vs Q E hG hr h => ?_)
  · obtain ⟨M, S, m, ws, ow, pc, vl, ks, rfl, _⟩ := h
    rfl
  · obtain ⟨M, S, m, ws, ow, pc, vl, ks, rfl, r, ft, q⟩ := h
    obtain ⟨a, b, c, d, kvs, as, h0, rfl, h1, hl, hr', h2, h3, h4, _⟩ := r.ex
    have few := ft.few
    refine ⟨_, (pss_cons (ps_set (i := 1) sc__law_come.nd rfl (Or.inl rfl) (pe_lst (pa_cons pe_int pa_nil)))
      (pss_cons (ps_for PassesOwn.never rfl (pi_range2 rfl T.b_range (pa_cons pe_int (pa_cons (pe_callB call_len (by rfl) T.b_len boot_len_ (pa_cons (pe_dget (hu_of hr) (pv 0) pe_str (fun _ _ => rfl)) pa_nil)) pa_nil))) (pg_name (i := 2) sc__law_come.nd rfl (Or.inl rfl))
          (pss_one (ps_expr (pe_bm PySem.F.plainAttrs_list PySem.F.slot_list_insert PySem.F.type_list_insert mt_insert (pv 1) (pa_cons (pe_op op_add (pe_bm PySem.F.plainAttrs_list PySem.F.slot_list_index PySem.F.type_list_index mt_index (pv 1) (pa_cons (pe_ix ix_list (pe_dget (hu_of hr) (pv 0) pe_str (fun _ _ => rfl)) (pv 2) (fun _ _ => rfl)) pa_nil)) pe_int) (pa_cons (pv 2) pa_nil))))))
      (pss_one (ps_ret (pv 1))))), ?_⟩
    refine ⟨(by show 1 ≤ sizeLine; decide), fun L hL => ?_⟩
    have s1 := same_new (o := .lst [V.int 0]) hL
    have eL : (upd H L (.lst [V.int 0])) L = some (.lst [V.int 0]) := upd_same
    generalize upd H L (.lst [V.int 0]) = H1 at *
    refine ⟨_, rfl, m, _, rfl, dgs (s1 _ _ h0) rfl, .ref b, _, rfl, .inl ⟨_, SqL.of (s1 _ _ h2), rfl⟩, _, _, rfl, ?_, ?_⟩
    · rw [List.length_cons, List.length_map]
      exact ⟨by decide, by decide, by omega, by omega⟩
    have k1 : ∀ c u, H c = some u → c ≠ L := fun c u z => ne_of_none z hL
    have hn : ((((V.non :: ow.map num).length : Nat) : Int) - 1).toNat = ow.length := by
      rw [List.length_cons, List.length_map]
      omega
    rw [hn]
    refine for_range (lo := 1) (n := ow.length) (fun k σ H' => ∃ (y2 : Option V), σ = [some (.ref m), some (.ref L), y2] ∧ H' L = some (.lst ((comeN ow k).map num)) ∧ (∀ c u, c ≠ L → H1 c = some u → H' c = some u))
      ⟨none, rfl, eL, fun c u _ z => z⟩ (fun k σ H2 hk hP => ?_) (fun σ H2 hP => ?_)
    · obtain ⟨y2, rfl, eL2, k2⟩ := hP
      have k02 : ∀ c u, H c = some u → H2 c = some u := fun c u z => k2 _ _ (k1 c u z) (s1 _ _ z)
      have hpl : ow.getD k 0 ≤ k := by
        have := par_lt ft.low (i := k + 1) (by omega)
        unfold par at this
        rw [show k + 1 - 1 = k from rfl] at this
        omega
      have hmem : ow.getD k 0 ∈ comeN ow k := (comeN_mem ow k _).mpr hpl
      have hlen := comeN_len ow k
      obtain ⟨od, hod⟩ : ∃ od, od = comeN ow k := ⟨_, rfl⟩
      obtain ⟨i, hi⟩ : ∃ i, i = ow.getD k 0 := ⟨_, rfl⟩
      have odn : od.Nodup := hod ▸ comeN_nd ow k
      rw [← hod, ← hi] at hmem
      rw [← hod] at eL2 hlen
      have hix : od.idxOf i < od.length := List.idxOf_lt_length_of_mem hmem
      have hg : od[od.idxOf i]? = some i := by rw [List.getElem?_eq_getElem hix, List.getElem_idxOf hix]
      have hlt : ∀ (m : Nat) (z' : V), m < od.idxOf i → (od.map num)[m]? = some z' → eqV z' (num i) = false := fun m z' hm hz => by
        rw [List.getElem?_map, getD_at (by omega)] at hz
        cases (show some (num (od.getD m 0)) = some z' from hz)
        refine eqv_num fun e => ?_
        have := getD_inj odn (a := m) (b := od.idxOf i) (by omega) hix (by
          rw [e, List.getD_eq_getElem?_getD, hg]
          rfl)
        omega
      have hown : atI (V.non :: ow.map num) (1 + (k : Nat)) = some (num i) := by
        have := at_own (ow := ow) (i := k + 1) (by omega) (by omega)
        rw [show ((k + 1 : Nat) : Int) = 1 + (k : Nat) by omega] at this
        rw [this, hi]
        rfl
      refine ⟨_, rfl, .inl ⟨rfl, _, SqL.of eL2⟩, _, rfl, .inl ⟨rfl, _, SqL.of eL2⟩, ?_⟩
      refine ⟨_, rfl, m, _, rfl, dgs (k02 _ _ h0) rfl, _, rfl, b, _, _, num i, rfl, rfl, SqL.of (k02 _ _ h2), hown, ?_⟩
      refine ⟨L, _, num i, od.idxOf i, num i, rfl, rfl, SqL.of eL2, rfl, flat_nums od, (by rw [List.getElem?_map, hg]; rfl), (by rw [eq_num]; exact decide_eq_true rfl), hlt, _, _, rfl, rfl, ?_⟩
      refine ⟨_, rfl, L, _, ((od.idxOf i : Nat) : Int) + 1, num (k + 1), rfl, ?_, eL2, small1000 (by rw [List.length_map]; omega), by omega, by omega, ?_⟩
      · rw [show num (k + 1) = V.int (1 + (k : Nat)) from by show V.int _ = V.int _; congr 1; omega]
      · rw [show (((od.idxOf i : Nat) : Int) + 1).toNat = od.idxOf i + 1 by omega]
        have hins : List.take (od.idxOf i + 1) (od.map num) ++ [num (k + 1)] ++ List.drop (od.idxOf i + 1) (od.map num) = (insO od i (k + 1)).map num := by
          unfold insO
          rw [List.map_append, List.map_append, List.map_take, List.map_drop]
          rfl
        rw [hins]
        refine ⟨_, rfl, ?_, fun c u hc z => ?_⟩
        · rw [upd_same, hod, hi]
          rfl
        · rw [upd_ne hc]
          exact k2 _ _ hc z
    · obtain ⟨y2, rfl, eL2, k2⟩ := hP
      exact ⟨_, rfl, q L H2 hL eL2 fun c u z => k2 _ _ (k1 c u z) (s1 _ _ z)⟩
def t3D (c : T3) : PyData := .tuple [.int ((c.1 : Nat) : Int), .int ((c.2.1 : Nat) : Int), .int c.2.2]
theorem t3Dp {K : PySem.W.Frag} {H : Hp} : ∀ (cs : List T3) (xs : List V), T3X H xs cs → DpAll K H xs (cs.map t3D)
  | [], [], _ => .nil
  | [], x :: xs, h => by cases h.len
  | c :: cs, [], h => by cases h.len
  | c :: cs, x :: xs, h => by
    obtain ⟨t, t1, t2⟩ := h.at_ 0 c rfl
    cases (Option.some.inj t1)
    exact .cons (.tup (SqT.of t2) (.cons (.int _) (.cons (.int _) (.cons (.int _) .nil)))) (t3Dp cs xs ⟨Nat.succ.inj h.len, fun i q e => h.at_ (i + 1) q e⟩)
theorem can_t3 (cs : List T3) : PyData.canLay0 (.list (cs.map t3D)) = true := by
  simp only [PyData.canLay0]
  induction cs with
  | nil => simp [PyData.canLayAll0]
  | cons x xs ih => simp [PyData.canLayAll0, PyData.canLay0, t3D, ih]
theorem sh_t3 (cs : List T3) : SeqAt.shaped (.list (cs.map t3D)) = true := by
  have e : PyData.depthAll (cs.map t3D) ≤ 1 := by
    induction cs with
    | nil => simp [PyData.depthAll]
    | cons x xs ih =>
      rw [List.map_cons, PyData.depthAll]
      have : (t3D x).depth = 1 := by simp [t3D, PyData.depth, PyData.depthAll]
      omega
  unfold SeqAt.shaped
  rw [can_t3, Bool.true_and]
  refine decide_eq_true ?_
  rw [PyData.depth]
  omega
def spRuns : Sp := fun vs H Q _ => ∃ (M S : Addr → Prop) (m : Addr) (ws : List Int) (ow pc : List Nat) (vl : List Int) (ks : List Nat) (j : Nat), vs = [.ref m, num j] ∧ MdlR M S H m ws ow pc vl ks ∧ Fit ws ow pc vl ∧ j < ws.length ∧ ks.length ≤ 64 ∧
  ∀ (a : Addr) (H' : Hp) (xs : List V), H a = none → H' a = some (.lst xs) → T3X H' xs (bxT ws ow pc vl (odK ow ks) j) → (∀ (k : Nat) (t : Addr), xs[k]? = some (.ref t) → H t = none) → Same H H' → Q (.ref a) H'
theorem ok_runs (T : Txt K mg) (c__law_come : CalG P w K mg base 1 "_law_come" spCome) (c__law_last : CalG P w K mg base 1 "_law_last" spLast) (D : DefAt K mg "_law_runs" s__law_runs ["_law_model_here", "_law_place"]) : CalG P w K mg base 2 "_law_runs" spRuns := by
  refine D.cal sc__law_runs (fun vs H Q E h => ?_) (fun f cdv A outer s H vs Q E hG hr h => ?_)
  · obtain ⟨M, S, m, ws, ow, pc, vl, ks, j, rfl, _⟩ := h
    rfl
  · obtain ⟨M, S, m, ws, ow, pc, vl, ks, j, rfl, md, ft, hj, h64, q⟩ := h
    obtain ⟨a, rr, w_, d, kvs, as, h0, rfl, h1, hl, hr', h2, h3, h4, m0, m1, m2, m3, m4, _⟩ := md.ex
    have few := ft.few
    refine ⟨_, (pss_cons (ps_set (i := 2) sc__law_runs.nd rfl (Or.inl rfl) (pe_lst pa_nil))
      (pss_cons (ps_for PassesOwn.never rfl (pi_list (pe_g c__law_come hG (hr.mono (by decide)) (by rfl) (pa_cons (pv 0) pa_nil))) (pg_name (i := 3) sc__law_runs.nd rfl (Or.inl rfl))
          (pss_one (ps_if (pt_cmpR op_in_seq (pv 3) (pe_dget (hu_of hr) (pv 0) pe_str (fun _ _ => rfl)) (by rfl))
              (pss_cons (ps_set (i := 4) sc__law_runs.nd rfl (Or.inl rfl) (pe_g c__law_last hG (hr.mono (by decide)) (by rfl) (pa_cons (pv 0) (pa_cons (pv 3) (pa_cons (pv 1) pa_nil)))))
              (pss_one (ps_if (PW.pt (pw_or (pt_cmpR (op_eqD (hu64 hr)) (pv 2) (pe_lst pa_nil) (nomark _)) (pw_or1 (pt_cmpR op_ne (pe_ix ix_tup (pe_ix ix_list (pv 2) (pe_un un_neg pe_int) (fun _ _ => rfl)) pe_int (fun _ _ => rfl)) (pv 4) (nomark _)))))
                  (pss_one (ps_expr (pe_bm PySem.F.plainAttrs_list PySem.F.slot_list_append PySem.F.type_list_append mt_append (pv 2) (pa_cons (pe_tup (pa_cons (pv 3) (pa_cons (pv 4) (pa_cons (pe_ix ix_list (pe_ix ix_list (pe_dget (hu_of hr) (pv 0) pe_str (fun _ _ => rfl)) (pv 3) (fun _ _ => rfl)) (pv 1) (fun _ _ => rfl)) pa_nil)))) pa_nil)))) pss_nil))) pss_nil)))
      (pss_one (ps_ret (pv 2))))), ?_⟩
    refine ⟨(by show 0 ≤ sizeLine; decide), fun L hL => ?_⟩
    have s1 := same_new (o := .lst []) hL
    have eL : (upd H L (.lst [])) L = some (.lst []) := upd_same
    generalize upd H L (.lst []) = H1 at *
    refine ⟨_, rfl, M, S, m, ws, ow, pc, vl, ks, rfl, md.same s1, ft, fun ca H2 hca eca s2 => ?_⟩
    have k12 : ∀ c u, H c = some u → c ≠ L := fun c u z => ne_of_none z hL
    have caL : ca ≠ L := fun e => by rw [e, eL] at hca; cases hca
    refine ⟨ca, rfl, ⟨_, SqL.of eca⟩, ?_⟩
    have hcl : (come ow).length = ow.length + 1 := comeN_len ow _
    refine for_list (K := K) (a := ca) (xs := (come ow).map num) (fun n σ H' => ∃ (y3 y4 : Option V) (xs : List V), σ = [some (.ref m), some (num j), some (.ref L), y3, y4] ∧ H' L = some (.lst xs) ∧ T3X H' xs (bxT ws ow pc vl (((come ow).take n).filter fun k => decide (k ∈ ks)) j) ∧ (∀ (k : Nat) (t : Addr), xs[k]? = some (.ref t) → H t = none ∧ t ≠ L) ∧ (∀ c u, c ≠ L → H2 c = some u → H' c = some u))
      ⟨none, none, [], rfl, s2 _ _ eL, ⟨rfl, fun i c e => by cases e⟩, (fun k t e => by cases e), fun c u _ z => z⟩ (fun n σ H' _ hP => ?_) (fun n x σ H3 hnx hP => ?_) (fun σ H3 hP => ?_)
    · obtain ⟨_, _, _, _, _, _, _, k2⟩ := hP
      exact SqL.of (k2 _ _ caL eca)
    · obtain ⟨y3, y4, xs, rfl, eL3, cx, fx, k2⟩ := hP
      rw [List.getElem?_map] at hnx
      obtain ⟨k, hk, rfl⟩ := Option.map_eq_some_iff.mp hnx
      have hkl : k ≤ ow.length := (comeN_mem ow _ k).mp (List.mem_of_getElem? hk)
      have k03 : ∀ c u, H c = some u → H3 c = some u := fun c u z => k2 _ _ (k12 c u z) (s2 _ _ (s1 _ _ z))
      have hn2 : n < ow.length + 1 := by
        by_cases h : n < (come ow).length
        · omega
        · rw [List.getElem?_eq_none (by omega)] at hk
          cases hk
      refine ⟨_, rfl, _, rfl, m, _, rfl, dgs (k03 _ _ h0) rfl, d, _, rfl, .inl (SqL.of (k03 _ _ h4)), rfl, flat_nums ks, ?_⟩
      have hodl : (((come ow).take n).filter fun k => decide (k ∈ ks)).length ≤ n := by
        refine Nat.le_trans (List.length_filter_le ..) ?_
        rw [List.length_take]
        omega
      have ht : (((come ow).take (n + 1)).filter fun k => decide (k ∈ ks)) = (((come ow).take n).filter fun k => decide (k ∈ ks)) ++ (if k ∈ ks then [k] else []) := by
        rw [List.take_add_one, hk, List.filter_append]
        congr 1
        by_cases h : k ∈ ks
        · rw [if_pos h]
          simp [h]
        · rw [if_neg h]
          simp [h]
      rw [ht]
      generalize (((come ow).take n).filter fun k => decide (k ∈ ks)) = od at *
      by_cases hks : k ∈ ks
      rotate_left
      · rw [nin_nums hks, if_neg hks, List.append_nil]
        exact ⟨_, rfl, iteF ⟨_, y4, xs, rfl, eL3, cx, fx, k2⟩⟩
      rw [in_nums hks, if_pos hks]
      refine ⟨_, rfl, iteT ?_⟩
      have md3 := md.kp (H' := H3) fun c u _ z => k03 c u z
      refine ⟨_, rfl, _, rfl, _, rfl, M, S, m, ws, ow, pc, vl, ks, k, j, rfl, md3, ft, hkl, ?_⟩
      refine ⟨_, rfl, (by show 0 ≤ sizeLine; decide), fun e0 he0 => ?_⟩
      have s4 := same_new (o := .lst []) he0
      have ee0 : (upd H3 e0 (.lst [])) e0 = some (.lst []) := upd_same
      generalize upd H3 e0 (.lst []) = H4 at *
      have eL4 := s4 _ _ eL3
      have cx4 := cx.kp (KT.of s4)
      have k04 : ∀ c u, H c = some u → H4 c = some u := fun c u z => s4 _ _ (k03 c u z)
      refine ⟨_, _, .lst (SqL.of eL4) (t3Dp _ _ cx4), .lst (SqL.of ee0) .nil, sh_t3 _, sh_t3 [], ?_⟩
      obtain ⟨wk, hwk⟩ : ∃ wk, wk = wrt ow pc j 64 k := ⟨_, rfl⟩
      rw [← hwk]
      refine' joinH (Pre := fun H5 => H5 = H4 ∧ beg (wrt ow pc j 64) (od ++ [k]) od.length = true) (fun body => ?main) ?body
      case main =>
        by_cases hz : od = []
        · have he : PyData.eqv (.list ((bxT ws ow pc vl od j).map t3D)) (.list []) = true := by
            rw [hz]
            rfl
          rw [he]
          refine ⟨true, rfl, iteT (iteT ?_)⟩
          exact body H4 ⟨rfl, by rw [hz]; rfl⟩
        · obtain ⟨n', hn'⟩ : ∃ n', od.length = n' + 1 := by
            cases od with
            | nil => exact absurd rfl hz
            | cons x xs => exact ⟨xs.length, rfl⟩
          obtain ⟨cs, c, e1, e2⟩ := rbox_last ws vl j (wrt ow pc j 64) n' od hn'
          replace e1 : bxT ws ow pc vl od j = cs ++ [c] := e1
          rw [e1] at cx4
          have hg1 : (od ++ [k]).getD (od.length - 1) 0 = od.getD n' 0 := by
            rw [List.getD_eq_getElem?_getD, List.getElem?_append_left (by omega), ← List.getD_eq_getElem?_getD, hn']
            rfl
          have hg2 : (od ++ [k]).getD od.length 0 = k := by
            rw [List.getD_eq_getElem?_getD, List.getElem?_append_right (Nat.le_refl _), Nat.sub_self]
            rfl
          have hbg : beg (wrt ow pc j 64) (od ++ [k]) od.length = decide (c.2.1 ≠ wk) := by
            unfold beg
            rw [hg1, hg2, ← e2, hwk, decide_eq_false (by omega), Bool.false_or]
          have hne : PyData.eqv (.list ((bxT ws ow pc vl od j).map t3D)) (.list []) = false := by
            rw [e1]
            cases cs <;> rfl
          rw [hne]
          refine ⟨false, rfl, iteF ?_⟩
          obtain ⟨t, t1, t2⟩ := cx4.at_ cs.length c (by rw [List.getElem?_append_right (Nat.le_refl _), Nat.sub_self]; rfl)
          have hxl := cx4.len
          rw [List.length_append] at hxl
          obtain ⟨ys, y, rfl⟩ : ∃ ys y, xs = ys ++ [y] := ⟨xs.dropLast, xs.getLast (fun e => by rw [e] at hxl; simp at hxl), (List.dropLast_concat_getLast _).symm⟩
          have hyl : ys.length = cs.length := by
            rw [List.length_append] at hxl
            exact Nat.succ.inj hxl
          rw [← hyl, List.getElem?_append_right (Nat.le_refl _), Nat.sub_self] at t1
          cases (Option.some.inj t1)
          refine ⟨_, rfl, 1, rfl, L, _, _, .ref t, rfl, rfl, SqL.of eL4, atI_last _ _, t, _, _, num c.2.1, rfl, rfl, SqT.of t2, rfl, _, rfl, rfl, _, rfl, ?_⟩
          by_cases hd : c.2.1 = wk
          · rw [hd, decide_eq_true rfl]
            refine iteF ⟨_, _, ys ++ [.ref t], rfl, eL4, ?_, fx, fun c u hc z => s4 _ _ (k2 _ _ hc z)⟩
            show T3X H4 _ (rbox ws vl j _ _)
            rw [rbox_snoc, hbg, hd, if_neg (by simp), List.append_nil, show rbox ws vl j (wrt ow pc j 64) od = cs ++ [c] from e1]
            exact cx4
          · rw [decide_eq_false fun z => hd (num_eq z)]
            refine iteT ?_
            exact body H4 ⟨rfl, hbg.trans (decide_eq_true hd)⟩
      case body =>
        rintro H5 ⟨rfl, hb⟩
        obtain ⟨xi, hxi⟩ : ∃ xi, as[k]? = some xi := ⟨as[k]'(by omega), List.getElem?_eq_getElem (by omega)⟩
        obtain ⟨sx, exi⟩ := hr' _ xi hxi
        refine ⟨_, rfl, .inl ⟨rfl, _, SqL.of eL4⟩, _, rfl, _, rfl, ?_⟩
        refine ⟨_, rfl, m, _, rfl, dgs (k04 _ _ h0) rfl, _, rfl, a, _, _, .ref xi, rfl, rfl, SqL.of (k04 _ _ h1), atI_nat (by rw [List.getElem?_map, hxi]; rfl), _, rfl, xi, _, _, _, rfl, rfl, SqL.of (k04 _ _ exi), rowV_at hj, ?_⟩
        refine ⟨(by show 3 ≤ sizeLine; decide), fun t ht => ?_⟩
        have s5 := same_new (o := .tup [num k, num wk, V.int (val ws ow pc vl j k)]) ht
        have et : (upd H5 t (.tup [num k, num wk, V.int (val ws ow pc vl j k)])) t = some (.tup [num k, num wk, V.int (val ws ow pc vl j k)]) := upd_same
        have tL : t ≠ L := (ne_of_none eL4 ht).symm
        generalize upd H5 t (.tup [num k, num wk, V.int (val ws ow pc vl j k)]) = H6 at *
        have kL : ∀ c u, c ≠ L → H6 c = some u → (upd H6 L (.lst (xs ++ [.ref t]))) c = some u := fun c u hc z => by
          rw [upd_ne hc]
          exact z
        have eL6 := s5 _ _ eL4
        have hxl := cx4.len
        have hrl : (bxT ws ow pc vl od j).length ≤ od.length := rbox_len ws vl j (wrt ow pc j 64) od
        refine ⟨L, _, _, rfl, rfl, eL6, small1000 (by omega), _, _, xs ++ [.ref t], rfl, upd_same, ?_, fun j' t' e => ?_, fun c u hc z => kL _ _ hc (s5 _ _ (s4 _ _ (k2 _ _ hc z)))⟩
        · show T3X _ _ (rbox ws vl j _ _)
          rw [rbox_snoc, if_pos hb]
          refine T3X.snoc (c := trip ws vl j (wrt ow pc j 64) k) (cx4.kp (KT.of s5)) (fun c ys z => kL c _ (fun e => by rw [e, eL6] at z; cases z) z) ?_
          rw [upd_ne tL, et, hwk]
          rfl
        · by_cases hj' : j' < xs.length
          · rw [List.getElem?_append_left hj'] at e
            exact fx j' t' e
          · rw [List.getElem?_append_right (by omega)] at e
            cases y : j' - xs.length with
            | zero =>
              rw [y] at e
              cases e
              refine ⟨?_, tL⟩
              cases y : H t with
              | none => rfl
              | some u =>
                rw [k04 t u y] at ht
                cases ht
            | succ l =>
              rw [y] at e
              cases e
    · obtain ⟨y3, y4, xs, rfl, eL3, cx, fx, k2⟩ := hP
      rw [List.length_map, List.take_length] at cx
      exact ⟨_, rfl, q L H3 xs hL eL3 cx (fun k t e => (fx k t e).1) fun c u z => k2 _ _ (k12 c u z) (s2 _ _ (s1 _ _ z))⟩
end
end K46
/-! An own error whose __init__ says super().__init__(a text), then keeps two things, low and high. -/
namespace Gr
open PySem PySem.W PySem.Calls PyProof.Rows PySem.HandSPX
def iA (p1 p2 p3 : Pos) : Arguments := { posonlyargs := [], args := [{ arg := "self", annotation := none, pos := p1 }, { arg := "low", annotation := none, pos := p2 }, { arg := "high", annotation := none, pos := p3 }], vararg := none, kwonlyargs := [], kw_defaults := [], kwarg := none, defaults := [] }
def iB (msg : Str) (kk : Nat) (p1 p2 p3 p4 p5 p6 q1 q2 q3 q4 s1 s2 s3 s4 : Pos) : List Stmt :=
  [.Expr (.Call (.Attribute (.Call (.Name "super" p1) [] [] p2) "__init__" p3) [.Constant (.str msg) kk p4] [] p5) p6,
   .Assign [.Attribute (.Name "self" q1) "low" q2] (.Name "low" q3) q4, .Assign [.Attribute (.Name "self" s1) "high" s2] (.Name "high" s3) s4]
def iS : Scope := { kind := .function, names := [(PySem.Str.ofString "self", .local), (PySem.Str.ofString "low", .local), (PySem.Str.ofString "high", .local), (PySem.Str.ofString "__class__", .free), (PySem.Str.ofString "super", .globalImplicit)], isGenerator := false, isCoroutine := false, more := [] }
/-- what the written part says of the class at C and of its __init__ at fI -/
structure ErrTxt2 (P : Program) (K : Frag) (C fI : Addr) (qn msg : Str) : Prop where
  cls : ∃ nm q N bs bm sn sub ab col dd k0 k1 k2 k3 k5, K.lookup C = some (excClassObj nm q C N bs bm true sn sub ab col dd k0 k1 k2 k3 k5 "ValueError.__new__") ∧ refsVE bm = true
  sa : findIn K (.ref C) "__setattr__" = some (some (.builtin "object.__setattr__"))
  ga : findIn K (.ref C) "__getattribute__" = some (some (.builtin "BaseException.__getattribute__"))
  gg : findIn K (.ref C) "__getattr__" = some none
  noN : findIn K (.ref C) "low" = some none
  noM : findIn K (.ref C) "high" = some none
  iC : findIn K (.ref C) "__init__" = some (some (.ref fI))
  tC : typeIn K (.ref fI) = some (.type "function")
  kC : keepIn K (.ref C) = true
  exC : subIn K (.ref C) (.type "BaseException") = some true
  veC : subIn K (.ref C) (.type "ValueError") = some true
  tyC : typeIn K (.ref C) = some (.type "type")
  hdC : hasDictIn K C = true
  sub : mroIn K C (.ref C) = some true
  sup : ks_superIn K C C "__init__" = some (some (.builtin "ValueError.__init__"))
  op : nsIn K cStatics "thirdparty.any" = some none
  zs : nsIn K mainGlobals "super" = some none
  htop : (P.main.scope.names.lookup ("super" : Str)).isSome = false
  fn : ∃ (oc : Value) (od : Option Addr) (doc pm : Value) (an : Option Addr) (cda cc : Addr) (ct : Value) (osl : Array (Option Value)) (kk : Nat) (p1 p2 p3 p4 p5 p6 q1 q2 q3 q4 s1 s2 s3 s4 r1 r2 r3 : Pos) (ccl cl : Value) (cdd cld : Option Addr) (vs : Array Value) (ccs csl : Array (Option Value)) (file : Str) (tf : Tok),
    K.lookup fI = some ⟨oc, od, .func (ksFn "__init__" qn (iA r1 r2 r3) (iB msg kk p1 p2 p3 p4 p5 p6 q1 q2 q3 q4 s1 s2 s3 s4) iS .none .none doc pm an (.ref cda) ct cc), osl⟩ ∧ codeIn K (.ref cda) qn = true ∧
    K.lookup cda = some ⟨ccl, cdd, .fields vs, ccs⟩ ∧ vs[2]? = some (.str file tf) ∧ ((P.main.file : Str) == file) = true ∧
    K.lookup cc = some ⟨cl, cld, .cell (some (.ref C)), csl⟩ ∧ (p3.endLine == p5.line) = true
/-- what __init__ leaves of a fresh exception at x -/
structure InitEnd (h h' : Heap) (x C dx t1 : Addr) (v v2 : Value) : Prop where
  keep : ∀ b o, b ≠ x → h.get? b = some o → h'.get? b = some o
  obj : h'.get? x = some { cls := .ref C, dict := some dx, data := .fields #[.ref t1, .none, .none, .none, .bool false, .none] }
  dbig : h.objs.size ≤ dx
  dne : dx ≠ x
  ns : h'.Ns1 dx (fun y => if y = "high" then some v2 else if y = "low" then some v else none)
theorem iS_nocell : ∀ y ∈ iS.names, y.2 ≠ .cell := by decide +kernel
theorem iS_loc (x v v2 : Value) : ∀ y ∈ ([(PySem.Str.ofString "self", x), (PySem.Str.ofString "low", v), (PySem.Str.ofString "high", v2)] : List (Str × Value)), iS.names.lookup y.1 = some .local := by
  intro y hy
  simp only [List.mem_cons, List.not_mem_nil, or_false] at hy
  rcases hy with rfl | rfl | rfl
  · exact (by decide +kernel : iS.names.lookup (PySem.Str.ofString "self") = some .local)
  · exact (by decide +kernel : iS.names.lookup (PySem.Str.ofString "low") = some .local)
  · exact (by decide +kernel : iS.names.lookup (PySem.Str.ofString "high") = some .local)
/-- o.name(..) in a body that is known to run, the call's line told -/
theorem at_method {M : Model} {A : Around} {c : Code} {E : Value → Shared → Prop} {s : Shared} {env : Env} {o : Expr} {name : Str} {apos pos : Pos} {args : List Expr} {Q : Value → Shared → Prop}
    (hl : (apos.endLine == pos.line) = true) (hf : methodCallForm (args.length + ([] : List Keyword).length) (backTo pos (starEach args env)) (backToKw pos (keywordEach [] env)) = true)
    (h : _root_.PySem.wpAt M A c (attributeBase o name env (eval o env)) (fun ov s₁ => wpAny M A (getMethod ov name (do return (← importBound o env).getD true))
      (fun fx s₂ => wpAny M A (callWith pos fx.1 fx.2 (backTo pos (starEach args env)) (backToKw pos (keywordEach [] env))) Q E s₂) E s₁) E s) :
    _root_.PySem.wpAt M A c (eval (.Call (.Attribute o name apos) args [] pos) env) Q E s := by
  rw [arm_eval_Call]
  apply _root_.PySem.wpAt_bind
  apply _root_.PySem.wpAt_mono h
  · intro ov s₁ h₁
    apply _root_.PySem.wpAt_of_wpAny
    apply wpAny_bind
    apply wpAny_standAt
    have hp : methodCallPos true o env apos pos = pure pos := by
      unfold methodCallPos
      simp [hl]
    unfold methodCall
    rw [hf]
    apply wpAny_bind
    apply wpAny_holding
    apply wpAny_mono h₁
    · intro fx s₂ h₂
      exact wpAny_bind (wpAny_of_eq hp h₂)
    · intro _ _ z
      exact z
  · intro _ _ z
    exact z
section
variable {prog : Program} {w : World} {A : Around} {E : Value → Shared → Prop} {R : Result → Shared → Prop} {s : Shared} {K : Frag} {mg mb : Str → Option Value} {C fI : Addr} {qn msg : Str}
theorem sup_call {h : Heap} {g : Array GenState} {d : Drawn} {t : Nat} {os : OsState} {u e t0 : Addr} {one : Value} {Q : Value → Shared → Prop}
    {nm q : Str} {N : Addr} {bs bm sub : List Value} {sn : List Str} {ab : Bool} {col : Option Bool} {dd : Option Addr} {k0 k1 k2 k3 k5 : Option Value}
    (hC : h.get? C = some (excClassObj nm q C N bs bm true sn sub ab col dd k0 k1 k2 k3 k5 "ValueError.__new__")) (he : h.get? e = some (excO C t0)) (hu : h.get? u = some (kxs_mw "ValueError.__init__" e))
    (hq : ∀ h' t1, (∀ b o, b ≠ e → h.get? b = some o → h'.get? b = some o) → h'.get? e = some (excO C t1) → Q .none ⟨h', g, d, t, os⟩) :
    wpAny (model prog w) A (call (.ref u) [one]) Q E ⟨h, g, d, t, os⟩ := by
  refine wpAny_call (codeAny_of_tree (show wpAny _ (Around.in1 _) (callAny (.ref u) ⟨[one], []⟩) _ _ _ from ?_))
  have e1 : (Value.type "method-wrapper" == Value.type "method" || Value.type "method-wrapper" == Value.type "builtin_function_or_method" || Value.type "method-wrapper" == Value.type "method-wrapper") = true := by decide
  simp only [callAny]
  refine wpAny_bind (m := load u) (wpAny_load hu ?_)
  simp only [kxs_mw, e1, if_true]
  refine (KFB.if_so (by decide) (wpAny_bind (check_bound_init F.excBase_ValueError.toExcCallFacts hC he rfl ?_)))
  refine (wpAny_bind (wpAny_pure (wpAny_pure (And.intro (plainId_quiet F.excBase_ValueError.init.plain _) (codeAny_builtin F.excBase_ValueError.initEntry ?_)))))
  have lz : [one].length ≤ sizeLine := by
    rw [sizeLine_eq]
    exact (by decide : 1 ≤ 16777216)
  exact exc_init_tree (cls := .ref C) (t0 := t0) (dv := none) (c2 := .none) (c3 := .none) (b4 := .bool false) he lz (fun h₄ k₄ hx₄ _ => hq h₄ _ k₄ hx₄)
theorem err_init (T : ErrTxt2 prog K C fI qn msg) {x t0 : Addr} {v v2 : Value} (X : K.In s.heap) (lim : s.heap.NoLimit) (gl : s.heap.Ns mainGlobals mg) (bl : s.heap.Ns builtinsNs mb)
    (bb : ∀ x : Str, x ≠ "__name__" → mb x = bootBuiltins x) (hx : s.heap.get? x = some (excO C t0)) (hnx : K.lookup x = none) (room : A.depth < recursionLimit)
    (hq : ∀ h' tk dx t1, InitEnd s.heap h' x C dx t1 v v2 → R (.ok (.ret .none)) { s with heap := h', toks := tk }) :
    codeAny (model prog w) A (.call (.ref fI) ⟨[.ref x, v, v2], []⟩) R s := by
  obtain ⟨oc, od, doc, pm, an, cda, cc, ct, osl, kk, p1, p2, p3, p4, p5, p6, q1, q2, q3, q4, s1', s2', s3', s4', r1, r2, r3, ccl, cl, cdd, cld, vs, ccs, csl, file, tf, ho, hcd, hcode, hvs, hfile, hcell, hline⟩ := T.fn
  obtain ⟨nm, q, N, bs, bm, sn, sub, ab, col, dd, k0, k1, k2, k3, k5, hC, hbm⟩ := T.cls
  have hzs := mg_none_of X gl T.zs
  obtain ⟨hp, g, dr, tk, os⟩ := s
  refine ks_codeAny_call_defAt (binds := [("self", .ref x), ("low", v), ("high", v2)]) room (X _ _ ho) rfl lim (codeRec_of X hcd) rfl (BindsTo.of_eq (by first | rfl | with_unfolding_all rfl)) iS_nocell (iS_loc _ _ _) (fun h₁ hns k₁ => ?_) rfl rfl rfl
  have X₁ : K.In h₁ := X.keeps k₁
  have hx₁ := k₁ _ _ hx
  refine ks_wpAt_execs_cons (ks_wpAt_Expr_any (at_method hline (by first | rfl | with_unfolding_all rfl) ?_))
  refine ks_wpAt_super_base rfl rfl (by decide) rfl (X₁ _ _ ho) rfl rfl rfl (X₁ _ _ hcode) rfl hvs hfile T.htop ?_
  refine ks_loadName_global rfl rfl (loadGlobal_builtin (gl.keeps k₁) hzs (bl.keeps k₁) ((bb _ (by decide +kernel)).trans (by decide +kernel : bootBuiltins "super" = some (.type "super"))) ⟨rfl, ?_⟩)
  refine wpAny_loadName_free rfl rfl rfl ⟨_, X₁ _ _ hcell, rfl⟩ ?_
  refine wpAny_loadName_local rfl rfl hns (v := .ref x) (by first | rfl | with_unfolding_all rfl) ?_
  refine ks_wpAny_isType_cls (X₁ _ _ hC) rfl ⟨rfl, ?_⟩
  refine ks_wpAny_call_super (X₁ _ _ hC) rfl hx₁ rfl (fun c e => nomatch e) (looks_mroIn X₁ T.sub) (fun h₂ e₂ k₂ => ?_)
  have X₂ : K.In h₂ := X₁.keeps k₂
  have hx₂ := k₂ _ _ hx₁
  have I₂ : InstAt h₂ x (excO C t0) C none := ⟨hx₂, rfl, rfl, trivial⟩
  have hcl : clsIn K C = some { name := nm, bases := bs, mro := .ref C :: bm, ns := N, qualname := q, hasDict := true, slotNames := sn, subclasses := sub, abstract := ab, collection := col, hasDel := false } := by
    unfold clsIn
    rw [hC]
    all_goals rfl
  have hm := T.sup
  unfold ks_superIn at hm
  rw [hcl] at hm
  have hI : Looks (model prog w) h₂ (isInstance (.ref x) (.type "ValueError")) true := I₂.type.andThen (looks_subIn X₂ T.veC)
  have hxC : x ≠ C := fun z => by
    rw [z, hC] at hnx
    cases hnx
  refine kxs_getMethod kxs_ValueError e₂ (looks_opaque X₂ T.op) (l₀ := .ref C :: bm) ?_ rfl X₂ hm hI hxC (by decide +kernel) ?_
  · exact fun A Q E s k q => wpAny_bind ((looks_clsIn X₂ hcl) A _ E s k (wpAny_pure q))
  have hu : (h₂.push (kxs_mw "ValueError.__init__" x)).get? h₂.objs.size = some (kxs_mw "ValueError.__init__" x) := Heap.get?_push_at rfl rfl
  have k₃ : ∀ b o, h₂.get? b = some o → (h₂.push (kxs_mw "ValueError.__init__" x)).get? b = some o := fun b o e => Heap.get?_push_of_some _ e
  have X₃ : K.In (h₂.push (kxs_mw "ValueError.__init__" x)) := X₂.keeps k₃
  have hx₃ := k₃ _ _ hx₂
  refine kxs_callWith (i := "ValueError.__init__") (x := x) (by rfl) (evalArgs_plain ?_)
  refine Calls.spliced_cons (Calls.Constant_str (k := kk) (pos := p4) ?_)
  refine Calls.spliced_nil ⟨hu, ?_⟩
  refine sup_call (X₃ _ _ hC) hx₃ hu (fun h₄ t1 k₄ hx₄ => ?_)
  -- self.low = found
  have X₄ : K.In h₄ := fun a o e => k₄ a o (fun z => by rw [z, hnx] at e; cases e) (X₃ a o e)
  have hLx : hp.objs.size ≠ x := Nat.ne_of_gt (Heap.lt_size hx)
  have hn₄ := hns
  obtain ⟨oL, es, ep, eL, rL⟩ := hn₄
  have hn₄ : h₄.Ns hp.objs.size _ := ⟨oL, es, ep, k₄ _ _ hLx (k₃ _ _ (k₂ _ _ eL)), rL⟩
  have big : hp.objs.size < h₄.objs.size := hn₄.lt
  show _root_.PySem.wpAt _ _ _ (execs _ _) _ _ _
  refine _root_.PySem.wpAt_of_wpAny (wpAny_execs_cons (plainObj_wpAny_Assign_Attribute ?_))
  refine wpAny_Name (wpAny_loadName_local rfl rfl hn₄ (v := v) (by first | rfl | with_unfolding_all rfl) ?_) (by decide)
  refine wpAny_Name (wpAny_loadName_local rfl rfl hn₄ (v := .ref x) (by first | rfl | with_unfolding_all rfl) ?_) (by decide)
  refine set_plain X₄ (ox := excO C t1) (od := none) ⟨hx₄, rfl, rfl, trivial⟩ T.sa ?_
  refine HandSPX.exc_osa X₄ hx₄ hcl (show refsVE (.ref C :: bm) = true from hbm) rfl T.noN (fun h₅ tk₅ dx k₅ dn dne hx₅ hn₅ => ?_)
  -- self.high = high
  have X₅ : K.In h₅ := fun a o e => k₅ a o (fun z => by rw [z, hnx] at e; cases e) (X₄ a o e)
  have hn₅' : h₅.Ns hp.objs.size _ := ⟨oL, es, ep, k₅ _ _ hLx (k₄ _ _ hLx (k₃ _ _ (k₂ _ _ eL))), rL⟩
  have hdL : dx ≠ hp.objs.size := fun z => by
    rw [z] at dn
    exact absurd (Nat.lt_of_lt_of_le big dn) (Nat.lt_irrefl _)
  show wpAny _ _ (execs _ _) _ _ _
  refine wpAny_execs_cons (plainObj_wpAny_Assign_Attribute ?_)
  refine wpAny_Name (wpAny_loadName_local rfl rfl hn₅' (v := v2) (by first | rfl | with_unfolding_all rfl) ?_) (by decide)
  refine wpAny_Name (wpAny_loadName_local rfl rfl hn₅' (v := .ref x) (by first | rfl | with_unfolding_all rfl) ?_) (by decide)
  obtain ⟨oD, hoD⟩ : ∃ oD, h₅.get? dx = some oD := by
    obtain ⟨oD, es, ep, e, _⟩ := hn₅
    exact ⟨oD, e⟩
  refine set_plain X₅ (ox := { cls := .ref C, dict := some dx, data := .fields #[.ref t1, .none, .none, .none, .bool false, .none] }) (od := some oD) ⟨hx₅, rfl, rfl, hoD⟩ T.sa ?_
  refine OEX.osa_old (nl := [("low" : Str)]) X₅ hx₅ hn₅ (fun y h => ?_) (by decide) hcl (show refsVE (.ref C :: bm) = true from hbm) rfl T.noM (fun h₆ tk₆ k₆ hn₆ => ?_)
  · by_cases hy : y = ("low" : Str)
    · rw [hy]
      exact List.mem_cons_self
    · exact absurd (if_neg hy) h
  show wpAny _ _ (execs _ _) _ _ _
  have hdx : x ≠ dx := fun z => dne z.symm
  exact wpAny_execs_nil (hq h₆ tk₆ dx t1 ⟨fun b o hb e => k₆ b o (fun z => absurd (Nat.lt_of_lt_of_le (Heap.lt_size (z ▸ e : hp.get? dx = some o)) (Nat.le_trans (Nat.le_of_lt big) dn)) (Nat.lt_irrefl _)) (k₅ b o hb (k₄ b o hb (k₃ b o (k₂ b o (k₁ b o e))))), k₆ _ _ hdx hx₅, Nat.le_trans (Nat.le_of_lt big) dn, dne, hn₆⟩)
/-- an error that was made: its own dict d holds the thing -/
structure OwnMade (h h' : Heap) (e C d : Addr) (v v2 : Value) : Prop where
  keep : ∀ b o, h.get? b = some o → h'.get? b = some o
  new : h.objs.size ≤ e
  obj : ∃ oe vs, h'.get? e = some oe ∧ oe.cls = .ref C ∧ oe.dict = some d ∧ oe.data = .fields vs ∧ vs[1]? = some .none
  dbig : h.objs.size ≤ d
  dne : d ≠ e
  ns : h'.Ns1 d (fun y => if y = "high" then some v2 else if y = "low" then some v else none)
theorem two_size (v v2 : Value) : [v, v2].length ≤ sizeLine := by
  rw [sizeLine_eq]
  exact (by decide : 2 ≤ 16777216)
theorem err_made (T : ErrTxt2 prog K C fI qn msg) {v v2 : Value} (X : K.In s.heap) (lim : s.heap.NoLimit) (gl : s.heap.Ns mainGlobals mg) (bl : s.heap.Ns builtinsNs mb)
    (bb : ∀ x : Str, x ≠ "__name__" → mb x = bootBuiltins x) (room : A.depth + 1 < recursionLimit)
    (hq : ∀ h' tk e d, OwnMade s.heap h' e C d v v2 → R (.ok (.ret (.ref e))) { s with heap := h', toks := tk }) :
    codeAny (model prog w) A (.call (.ref C) ⟨[v, v2], []⟩) R s := by
  obtain ⟨nm, q, N, bs, bm, sn, sub, ab, col, dd, k0, k1, k2, k3, k5, hC, hbm⟩ := T.cls
  obtain ⟨hp, g, dr, tk, os⟩ := s
  have k : ∀ b o, hp.get? b = some o → ((hp.push (kdv_tup [v, v2])).push (excO C hp.objs.size)).get? b = some o := fun b o e => Heap.get?_push_of_some _ (Heap.get?_push_of_some _ e)
  have hget : ((hp.push (kdv_tup [v, v2])).push (excO C hp.objs.size)).get? (hp.objs.size + 1) = some (excO C hp.objs.size) := by heap_get
  have hnx : K.lookup (hp.objs.size + 1) = none := by
    cases e : K.lookup (hp.objs.size + 1) with
    | none => rfl
    | some o =>
      have z : hp.get? (hp.objs.size + 1) = some o := X _ _ e
      exact absurd (Nat.lt_of_succ_lt (Heap.lt_size z)) (Nat.lt_irrefl _)
  refine HandSPX.call_own F.excBase_ValueError (fun X => refsVE_contains X bm hbm) (X _ _ hC) (looks_findIn X T.iC) (fun self => bind_fn X self T.tC) (two_size v v2) ?_
  refine err_init (s := ⟨(hp.push (kdv_tup [v, v2])).push (excO C hp.objs.size), g, dr, tk, os⟩) T (X.keeps k) (lim.keeps k) (gl.keeps k) (bl.keeps k) bb hget hnx ?_ fun h' tk' dx t1 ⟨k', hx, dn, dne, hns⟩ => ?_
  · show A.depth + 1 < recursionLimit
    exact room
  · have old : ∀ b o, hp.get? b = some o → h'.get? b = some o := fun b o e => k' b o (Nat.ne_of_lt (Nat.lt_succ_of_lt (Heap.lt_size e))) (k b o e)
    have z : hp.objs.size + 1 + 1 ≤ dx := by
      first
        | (simpa only [Heap.size_push] using dn)
        | exact dn
        | (have q := dn; rw [Heap.size_push, Heap.size_push] at q; exact q)
    exact ⟨rfl, hq h' tk' (hp.objs.size + 1) dx ⟨old, Nat.le_succ _, ⟨_, _, hx, rfl, rfl, rfl, rfl⟩, Nat.le_trans (Nat.le_trans (Nat.le_succ _) (Nat.le_succ _)) z, dne, hns⟩⟩
end
end Gr
namespace Gr
open PySem PySem.Spec PyProof.Rows L2
theorem relO_f2 {v v2 : V} {v' v2' : Value} (r : RelV v v') (r2 : RelV v2 v2') (f : Str) : RelO (List.lookup f [(("low" : Str), v), (("high" : Str), v2)]) (if f = "high" then some v2' else if f = "low" then some v' else none) := by
  by_cases hw : f = "low"
  · subst hw
    have q : List.lookup ("low" : Str) [(("low" : Str), v), (("high" : Str), v2)] = some v := by simp [List.lookup]
    rw [q, if_neg (by decide), if_pos rfl]
    exact r
  · have qw : (f == ("low" : Str)) = false := by simpa using hw
    by_cases hh : f = "high"
    · subst hh
      have q : List.lookup ("high" : Str) [(("low" : Str), v), (("high" : Str), v2)] = some v2 := by simp [List.lookup, qw]
      rw [q, if_pos rfl]
      exact r2
    · have qh : (f == ("high" : Str)) = false := by simpa using hh
      have q2 : List.lookup f [(("low" : Str), v), (("high" : Str), v2)] = none := by simp [List.lookup, qw, qh]
      rw [q2, if_neg hh, if_neg hw]
      trivial
section
variable {X : Cx} {C fI : Addr} {qn msg cn : Str}
/-- E(low, high) -/
def tMkE2 (C : Addr) (ta : TA) : L2.St → Hp → XK → Prop := fun σ H Q => ta σ H fun vs H1 => ∃ v v2, vs = [v, v2] ∧ ∀ d, H1 d = none → Q (.ref C) (some d) (upd H1 d (.xd [(("low" : Str), v), (("high" : Str), v2)]))
theorem pmk_err2 {a b : Expr} {ta : TA} {p pos : Pos} {k : Nat} (T : ErrTxt2 X.prog X.K C fI qn msg) (gC : X.mg cn = some (.ref C)) (hr : Room k X.A) (ha : PA X [a, b] ta) (hg : Gl X cn)
    (hdb : (cn == ("__debug__" : Str)) = false := by decide)
    (he : starEach (a :: [b]) X.env = (false, eval a X.env) :: starEach [b] X.env := by rfl) (hpl : (backTo pos (starEach [b] X.env)).any (·.1) = false := by rfl) :
    PMk X (.Call (.Name cn p) [a, b] [] pos) (tMkE2 C ta) := by
  intro pins s σ H Q I h
  apply wpAny_Call_Name_kw
  apply ld_glob I hg gC (hd := hdb)
  refine PySem.W.callWith_K (h₀ := X.base) I.ok.mod.kin T.kC (thn (ha.run pos pins s σ H _ I h) ?_) he hpl
  rintro us s1 ⟨vs, H1, I1, r1, v, v2, ev, q1⟩
  subst ev
  refine ⟨I1.kIn, ?_⟩
  cases r1 with
  | cons rv rn =>
    rename_i v' us'
    cases rn with
    | cons rv2 rn =>
    rename_i v2' us'
    cases rn
    show wpAny _ _ (call (.ref C) [v', v2']) _ _ _
    have hlim := I1.nolimit
    have hgl := I1.mod.glob.keeps I1.bk
    obtain ⟨mb, hbl0, hbb⟩ := I1.mod.blt
    have hbl := hbl0.keeps I1.bk
    obtain ⟨hp, g, dr, tk, os⟩ := s1
    refine wpAny_call (err_made T I1.kIn hlim hgl hbl hbb (by have := hr.dp; omega) fun h' tk' e d M => ?_)
    show MkP X pins σ Q (.ref e) ⟨h', g, dr, tk', os⟩
    obtain ⟨oe, fv, hoe, hc, hd, hdat, h1⟩ := M.obj
    have hns := M.ns
    obtain ⟨G', g1, g2⟩ := restrict h' fun b => decide (b ≠ e)
    have gk : ∀ b, b ≠ e → G'.get? b = h'.get? b := fun b hb => g1 b (decide_eq_true hb)
    have ge : G'.get? e = none := g2 e (by simp)
    have old : ∀ b o, hp.get? b = some o → G'.get? b = some o := fun b o q => (gk b (Nat.ne_of_lt (Nat.lt_of_lt_of_le (Heap.lt_size q) M.new))).trans (M.keep b o q)
    have ob : ObjOk X.prog X.w (upd H1 d (.xd [(("low" : Str), v), (("high" : Str), v2)])) G' d (.xd [(("low" : Str), v), (("high" : Str), v2)]) :=
      ⟨_, hns.at (fun o q => (gk d M.dne).trans q), fun f => relO_f2 rv rv2 f⟩
    have J : Inv X pins σ (upd H1 d (.xd [(("low" : Str), v), (("high" : Str), v2)])) ⟨G', g, dr, tk', os⟩ := I1.laid (t' := tk') old M.dbig ob
    refine ⟨e, oe, fv, ⟨G', g, dr, tk', os⟩, _, .ref C, some d, rfl, J, fun b o q => ?_, ge, hoe, ⟨hc, hd⟩, hdat, h1, ?_, rfl, I1.bare, raises_own T.exC T.tyC, q1 d (I1.hok.fresh M.dbig)⟩
    · by_cases hb : b = e
      · have q' : G'.get? b = some o := q
        rw [hb, ge] at q'
        cases q'
      · exact (gk b hb).symm.trans q
    · rw [upd_ne (Ne.symm M.dne)]
      exact I1.hok.fresh M.new
/-- raise E(low, high) -/
def tRaiseE2 (C : Addr) (W : WX) (ta : TA) : TS := fun _ σ H => tMkE2 C ta σ H fun cls d H' => W cls d σ H'
theorem ps_raiseE2 {a b : Expr} {ta : TA} {W : WX} {p pos pos2 : Pos} {k : Nat} (hc : X.calm = true) (T : ErrTxt2 X.prog X.K C fI qn msg) (gC : X.mg cn = some (.ref C)) (hr : Room k X.A) (tk : Takes X W) (ha : PA X [a, b] ta) (hg : Gl X cn)
    (hdb : (cn == ("__debug__" : Str)) = false := by decide)
    (he : starEach (a :: [b]) X.env = (false, eval a X.env) :: starEach [b] X.env := by rfl) (hpl : (backTo pos (starEach [b] X.env)).any (·.1) = false := by rfl) :
    PS X (.Raise (some (.Call (.Name cn p) [a, b] [] pos)) none pos2) (tRaiseE2 C W ta) := ps_raise hc tk (pmk_err2 T gC hr ha hg hdb he hpl)
end
end Gr
/-! A def that is handed a caught exception. -/
namespace Gc
open PySem PySem.Spec PyProof.Rows L2 Ge
abbrev SpE := Addr → Value → Option Addr → Sp
structure FnE (P : Program) (w : World) (K : PySem.W.Frag) (mg : Str → Option Value) (base : Heap) (k : Nat) (f : Addr) (fd : FuncData) (ps : List Str) (sp : SpE) : Prop where
  len : ∀ a cls d vs H Q E, sp a cls d vs H Q E → vs.length = ps.length
  run : ∀ (A : Around) (outer : List Env) (s : Shared) (H : Hp) (args : Args) (us : List Value) (vs : List V) (Q : VK) (E : XK) (p : Addr × Obj) (cls : Value) (d : Option Addr), L2H.RoomH k A → Zc cls d p.2 → (∃ vs, p.2.data = .fields vs) → L2H.PinOk outer H s p →
    Env0 P w K mg base A outer s H → BindsTo s fd args (ps.zip us) → Vals vs us → sp p.1 cls d vs H Q E → codeAny (model P w) A (.call (.ref f) args) (CR CX0 outer P w H s Q E) s
structure CalE (P : Program) (w : World) (K : PySem.W.Frag) (mg : Str → Option Value) (base : Heap) (k : Nat) (x : Str) (sp : SpE) : Prop where
  ex : ∃ (f : Addr) (fd : FuncData) (ps : List Str), FnE P w K mg base k f fd ps sp ∧ mg x = some (.ref f) ∧ PySem.W.keepIn K (.ref f) = true ∧ Binds K fd ps []
theorem fn_ofE {P : Program} {w : World} {K : PySem.W.Frag} {mg : Str → Option Value} {base : Heap} {k : Nat} {f : Addr} {name qual : Str} {params : Arguments} {body : List Stmt} {scope : Scope} {dV kV doc pm cdv ct oc : Value} {an od : Option Addr}
    {osl : Array (Option Value)} {N ps : List Str} {sp : SpE} (lk : K.lookup f = some ⟨oc, od, .func (PySem.W.fnOf name qual params body scope dV kV doc pm an cdv ct), osl⟩) (hcd : PySem.W.codeIn K cdv qual = true) (S : FnScope N ps scope)
    (len : ∀ a cls d vs H Q E, sp a cls d vs H Q E → vs.length = ps.length)
    (hbody : ∀ (A : Around) (outer : List Env) (s : Shared) (H : Hp) (vs : List V) (Q : VK) (E : XK) (p : Addr × Obj) (cls : Value) (d : Option Addr), Zc cls d p.2 → (∃ vs, p.2.data = .fields vs) → L2H.RoomH k (A.deeper (envOfC qual scope s.heap.objs.size f cdv)) → sp p.1 cls d vs H Q E →
      ∃ t, PSs (L2H.cxH CX0 P w K mg base N qual scope f cdv A outer s H E p) body t ∧ t { nx := fun _ H' => Q .non H', rt := Q } (L2.start N vs) H) :
    FnE P w K mg base (k + 1) f (PySem.W.fnOf name qual params body scope dV kV doc pm an cdv ct) ps sp := by
  refine ⟨len, fun A outer s H args us vs Q E p cls d hr hz hf hpin e0 hb r hsp => ?_⟩
  have hl := len _ _ _ _ _ _ _ hsp
  have KX : K.In s.heap := e0.mod.kin.keeps fun b o e => (e0.bs b o e).1
  have lim : s.heap.NoLimit := e0.mod.nolimit.keeps fun b o e => (e0.bs b o e).1
  have hkind : ∀ y ∈ ps.zip us, scope.names.lookup y.1 = some .local ∨ (scope.names.lookup y.1 = some .cell ∧ ((cellsFrom (s.heap.objs.size + 1) scope.names []).lookup y.1).isSome = true) := fun ⟨n, v⟩ hy => by
    rcases S.par n (List.of_mem_zip hy).1 with q | q
    · exact .inl q
    · exact .inr ⟨q, PySem.W.cellsFrom_some _ _ _ (.inl q)⟩
  refine codeAny_call_function hr.depth (KX _ _ lk) rfl S.co S.gen rfl (PySem.W.codeRec_of KX hcd) (hb _ _ _ _ ?_)
  refine wpAny_newFunctionEnv_cells S.kind hkind fun env he s1 x => ?_
  subst he
  refine ⟨lim.keeps x.toInCall.keep, codeAny_func ?_⟩
  obtain ⟨t, ht, hq⟩ := hbody A outer s H vs Q E p cls d hz hf (hr.deeper _) hsp
  have I : Inv (L2H.cxH CX0 P w K mg base N qual scope f cdv A outer s H E p) [] (L2.start N vs) H s1 := L2H.inv_startH S hpin e0 hl r x
  refine wpAny_mono (ht.run [] s1 (L2.start N vs) H _ I hq) (fun fl s' hs => ?_) fun e s' hs => hs
  have fin : ∀ {σ' : L2.St} {H' : Hp} {v : V} {u : Value}, Inv (L2H.cxH CX0 P w K mg base N qual scope f cdv A outer s H E p) [] σ' H' s' → RelV v u → Q v H' → CE outer P w H s Q u s' :=
    fun {σ' H' v u} J rv q => ⟨v, H', J.os, J.bare, J.base, J.hok, rv, q⟩
  cases fl with
  | ret u =>
    obtain ⟨v, σ', H', J, rv, q⟩ := hs
    exact fin J rv q
  | next =>
    obtain ⟨σ', H', J, q⟩ := hs
    exact fin (v := V.non) (u := Value.none) J rfl q
  | brk =>
    obtain ⟨_, _, _, q⟩ := hs
    exact False.elim q
  | cont =>
    obtain ⟨_, _, _, q⟩ := hs
    exact False.elim q
section
variable {P : Program} {w : World} {K : PySem.W.Frag} {mg : Str → Option Value} {base : Heap}
theorem DefAt.calE {x : Str} {st : Stmt} {N ps : List Str} {k : Nat} {sp : SpE} (D : Gd.DefAt K mg x st ps) (S : FnScope N ps (defScope st))
    (ar : ∀ a cls d vs H Q E, sp a cls d vs H Q E → vs.length = ps.length)
    (bd : ∀ (f : Addr) (cdv : Value) (A : Around) (outer : List Env) (s : Shared) (H : Hp) (vs : List V) (Q : VK) (E : XK) (p : Addr × Obj) (cls : Value) (d : Option Addr), Zc cls d p.2 → (∃ vs, p.2.data = .fields vs) → L2H.RoomH k (A.deeper (envOfC x (defScope st) s.heap.objs.size f cdv)) → sp p.1 cls d vs H Q E →
      ∃ t, PSs (L2H.cxH CX0 P w K mg base N x (defScope st) f cdv A outer s H E p) (defBody st) t ∧ t { nx := fun _ H' => Q .non H', rt := Q } (L2.start N vs) H) : CalE P w K mg base (k + 1) x sp := by
  obtain ⟨f, fd, F, m, b⟩ := D.ex
  have kp := F.kp
  obtain ⟨oc, od, kV, doc, pm, an, cdv, ct, osl, rfl, lk, cin⟩ := F.ex
  exact ⟨f, _, ps, fn_ofE lk cin S ar (bd f cdv), m, kp, b⟩
end
/-! ### the call, in the suite -/
section
variable {X : Cx} {k : Nat} {x : Str} {q pos : Pos} {e : Expr} {es : List Expr} {t : TA} {sp : SpE}
/-- f(e), in the suite that holds the exception at a -/
def tCallE (sp : SpE) (a : Addr) (cls : Value) (d : Option Addr) (t : TA) : TE := fun σ H Q => t σ H fun vs H1 => sp a cls d vs H1 Q E0
theorem pe_callE {a : Addr} {oe : Obj} {cls : Value} {d : Option Addr} (c : CalE X.prog X.w X.K X.mg X.base k x sp) (hp : (a, oe) ∈ X.pn) (hz : Zc cls d oe) (hf : ∃ vs, oe.data = .fields vs) (hr : L2H.RoomH k X.A) (hg : Gl X x)
    (ha : PA X (e :: es) t) (hdb : (x == ("__debug__" : Str)) = false := by decide) (he : starEach (e :: es) X.env = (false, eval e X.env) :: starEach es X.env := by rfl) (hpl : (backTo pos (starEach es X.env)).any (·.1) = false := by rfl) :
    PE X (.Call (.Name x q) (e :: es) [] pos) (tCallE sp a cls d t) := by
  obtain ⟨f, fd, ps, F, hm, hk, hb⟩ := c.ex
  refine ⟨fun pins s σ H Q I h => ?_⟩
  refine wpAny_Call_Name_kw (ld_glob I hg hm ?_ hdb)
  refine PySem.W.callWith_K (h₀ := X.base) I.ok.mod.kin hk (thn (ha.run pos pins s σ H _ I h) fun us s1 ⟨vs, H1, I1, r, q⟩ => ⟨I1.kIn, ?_⟩) he hpl
  have hl : us.length = ps.length := by rw [← r.length]; exact F.len _ _ _ _ _ _ _ q
  have b := hb s1 us I1.kIn (by rw [List.append_nil]; exact hl)
  rw [List.append_nil] at b
  have P1 := I1.pin (a, oe) (List.mem_append_left _ hp)
  have hpin : L2H.PinOk X.stack H1 s1 (a, oe) := ⟨P1.1, P1.2.1, fun hm => (List.mem_cons.mp (I1.stkSub a hm)).elim P1.2.2.1 P1.2.2.2.1, P1.2.2.2.2⟩
  refine wpAny_call (codeAny_mono (F.run X.A X.stack s1 H1 ⟨us, []⟩ us vs Q E0 (a, oe) cls d hr hz hf hpin I1.env0 b r q) fun r s' hq => ?_)
  cases r with
  | error e => exact False.elim hq
  | ok fl =>
    cases fl with
    | ret u => exact I1.after hq
    | next => exact False.elim hq
    | brk => exact False.elim hq
    | cont => exact False.elim hq
end
/-! ### what the def asks of it -/
section
variable {X : Cx} {C fI : Addr} {qn msg cn : Str}
theorem pe_foundP {a : Addr} {oe : Obj} {cls : Value} {d : Option Addr} {e : Expr} {te : TE} {pos : Pos} (T : ErrTxt X.prog X.K C fI qn msg) (hp : (a, oe) ∈ X.pn) (hz : Zc cls d oe) (hf : ∃ vs, oe.data = .fields vs) (he : PE X e te)
    (hb : attributeBase e "found" X.env (eval e X.env) = eval e X.env := by rfl) :
    PE X (.Attribute e "found" pos) (tFound C a cls d te) := by
  constructor
  intro pins s σ H Q I h
  refine attr_of hb (thn (he.run pins s σ H _ I h) ?_)
  rintro u s1 ⟨x, H1, I1, rx, ex, ec, dd, v, ed, ea, q⟩
  subst ex
  obtain rfl : u = Value.ref a := rx
  subst ec
  subst ed
  have ha := (I1.pin (a, oe) (List.mem_append_left _ hp)).1
  obtain ⟨vs, hd⟩ := hf
  have hx : ObjOk X.prog X.w H1 s1.heap dd (.xd [(("found" : Str), v)]) := I1.hok dd _ ea
  obtain ⟨mA, hns, hr⟩ := hx
  obtain ⟨od, ho, hl⟩ := lookIn_ns hns
  have l : List.lookup ("found" : Str) [(("found" : Str), v)] = some v := by simp [List.lookup]
  obtain ⟨u, hu, ru⟩ := RelO.some_of (v := v) (o := mA "found") (by rw [← l]; exact hr "found")
  have J : PySem.W.InstAt s1.heap a oe C (some od) := by
    refine ⟨ha, hz.1, ?_, by rw [hz.2]; exact ho⟩
    unfold PySem.W.notCls
    rw [hd]
    all_goals rfl
  exact HandSPX.exc_get I1.kIn J T.ga T.gg T.exC (PySem.W.findObj_own T.hdC T.noN rfl (by rw [hl, hu])) (handed_of ru) ⟨v, H1, I1.tok _, ru, q⟩
/-- isinstance(e, c), whatever its own dict holds -/
def rIsX (K : PySem.W.Frag) (C a : Addr) (cls : Value) (d : Option Addr) : List V → Hp → VK → Prop := fun xs H Q => ∃ (c : V) (cv : Value) (b : Bool) (dd : Addr) (fs : List (Str × V)), xs = [.ref a, c] ∧ cls = .ref C ∧ d = some dd ∧
  H dd = some (.xd fs) ∧ ClsV c cv ∧ PySem.W.kitOne K (.ref C) cv = some b ∧ Q (.bl b) H
/-- what a class of errors says, however many fields it keeps -/
structure ClsE (K : PySem.W.Frag) (C : Addr) : Prop where
  ga : PySem.W.findIn K (.ref C) "__getattribute__" = some (some (.builtin "BaseException.__getattribute__"))
  gg : PySem.W.findIn K (.ref C) "__getattr__" = some none
  exC : PySem.W.subIn K (.ref C) (.type "BaseException") = some true
  hdC : PySem.W.hasDictIn K C = true
theorem _root_.Ge.ErrTxt.ce {P : Program} {K : PySem.W.Frag} (T : ErrTxt P K C fI qn msg) : ClsE K C := ⟨T.ga, T.gg, T.exC, T.hdC⟩
theorem call_isP {a : Addr} {oe : Obj} {cls : Value} {d : Option Addr} (T : ClsE X.K C) (S : IsTxt X.K C) (hp : (a, oe) ∈ X.pn) (hz : Zc cls d oe) (hf : ∃ vs, oe.data = .fields vs) :
    CallR X (.builtin "isinstance") (rIsX X.K C a cls d) := by
  intro pins s σ H xs us Q I r h
  obtain ⟨c, cv, b, dd, fs, rfl, rfl, rfl, ea, hcv, e, q⟩ := h
  obtain ⟨u1, u2, rfl, r1, r2⟩ := vals2 r
  cases (show u1 = Value.ref a from r1)
  have e2 := hcv.eq r2
  subst e2
  have ha := (I.pin (a, oe) (List.mem_append_left _ hp)).1
  obtain ⟨vs, hd⟩ := hf
  have hx : ObjOk X.prog X.w H s.heap dd (.xd fs) := I.hok dd _ ea
  obtain ⟨mA, hns, _⟩ := hx
  obtain ⟨od, ho, _⟩ := lookIn_ns hns
  have J : PySem.W.InstAt s.heap a oe C (some od) := by
    refine ⟨ha, hz.1, ?_, by rw [hz.2]; exact ho⟩
    unfold PySem.W.notCls
    rw [hd]
    all_goals rfl
  have hcl : (PySem.W.clsIn X.K C).isSome = true := by
    obtain ⟨cd, hc, _⟩ := PySem.W.any_some T.hdC
    rw [hc]
    rfl
  exact PySem.W.kia_one (PySem.W.kitx_exc hcl T.ga T.gg T.exC S.ha S.hn S.ht S.hm) I.kIn J e (fun z => nomatch z) fun tk => ⟨.bl b, H, I.kept (t' := tk) fun _ _ z => z, rfl, q⟩
/-- e.f, e the exception handed in, whatever its own dict holds -/
def tFld (C : Addr) (a : Addr) (cls : Value) (d : Option Addr) (n : Str) (te : TE) : TE := fun σ H Q => te σ H fun x H1 => x = .ref a ∧ cls = .ref C ∧ ∃ (dd : Addr) (fs : List (Str × V)) (v : V), d = some dd ∧ H1 dd = some (.xd fs) ∧ fs.lookup n = some v ∧ Q v H1
theorem pe_fldP {a : Addr} {oe : Obj} {cls : Value} {d : Option Addr} {e : Expr} {te : TE} {n : Str} {pos : Pos} (T : ClsE X.K C) (noN : PySem.W.findIn X.K (.ref C) n = some none) (hp : (a, oe) ∈ X.pn) (hz : Zc cls d oe) (hf : ∃ vs, oe.data = .fields vs) (he : PE X e te)
    (hb : attributeBase e n X.env (eval e X.env) = eval e X.env := by rfl) :
    PE X (.Attribute e n pos) (tFld C a cls d n te) := by
  constructor
  intro pins s σ H Q I h
  refine attr_of hb (thn (he.run pins s σ H _ I h) ?_)
  rintro u s1 ⟨x, H1, I1, rx, ex, ec, dd, fs, v, ed, ea, hl0, q⟩
  subst ex
  obtain rfl : u = Value.ref a := rx
  subst ec
  subst ed
  have ha := (I1.pin (a, oe) (List.mem_append_left _ hp)).1
  obtain ⟨vs, hd⟩ := hf
  have hx : ObjOk X.prog X.w H1 s1.heap dd (.xd fs) := I1.hok dd _ ea
  obtain ⟨mA, hns, hr⟩ := hx
  obtain ⟨od, ho, hl⟩ := lookIn_ns hns
  obtain ⟨u, hu, ru⟩ := RelO.some_of (v := v) (o := mA n) (by rw [← hl0]; exact hr n)
  have J : PySem.W.InstAt s1.heap a oe C (some od) := by
    refine ⟨ha, hz.1, ?_, by rw [hz.2]; exact ho⟩
    unfold PySem.W.notCls
    rw [hd]
    all_goals rfl
  exact HandSPX.exc_get I1.kIn J T.ga T.gg T.exC (PySem.W.findObj_own T.hdC noN rfl (by rw [hl, hu])) (handed_of ru) ⟨v, H1, I1.tok _, ru, q⟩
end
end Gc
namespace K46
open PySem PySem.Spec PyProof.Rows L2 Gd Gs Gx Ge
open C8 (clsBody Met pe_mt pe_mt0)
/-- the refusals of the asks -/
structure RfT (P : Program) (K : PySem.W.Frag) (mg : Str → Option Value) (CA fA CN fN CP fP CS fS CE : Addr) : Prop where
  e_Alone : ErrTxt P K CA fA "Alone.__init__" "there is no other one"
  e_NoMake : ErrTxt P K CN fN "NoMake.__init__" "this is no make"
  e_NoPlace : ErrTxt P K CP fP "NoPlace.__init__" "this is no place"
  e_NoStretch : Gr.ErrTxt2 P K CS fS "NoStretch.__init__" "these two are no stretch"
  iA : IsTxt K CA
  iN : IsTxt K CN
  iP : IsTxt K CP
  iS : IsTxt K CS
  g_Alone : mg "Alone" = some (.ref CA)
  g_NoMake : mg "NoMake" = some (.ref CN)
  g_NoPlace : mg "NoPlace" = some (.ref CP)
  g_NoStretch : mg "NoStretch" = some (.ref CS)
  g_MakesError : mg "MakesError" = some (.ref CE)
  kAA : PySem.W.kitOne K (.ref CA) (.ref CA) = some true
  mA : PySem.W.exmOne K (.ref CA) (.ref CE) = some true
  kNA : PySem.W.kitOne K (.ref CN) (.ref CA) = some false
  kNN : PySem.W.kitOne K (.ref CN) (.ref CN) = some true
  mN : PySem.W.exmOne K (.ref CN) (.ref CE) = some true
  kPA : PySem.W.kitOne K (.ref CP) (.ref CA) = some false
  kPN : PySem.W.kitOne K (.ref CP) (.ref CN) = some false
  kPP : PySem.W.kitOne K (.ref CP) (.ref CP) = some true
  mP : PySem.W.exmOne K (.ref CP) (.ref CE) = some true
  kSA : PySem.W.kitOne K (.ref CS) (.ref CA) = some false
  kSN : PySem.W.kitOne K (.ref CS) (.ref CN) = some false
  kSP : PySem.W.kitOne K (.ref CS) (.ref CP) = some false
  kSS : PySem.W.kitOne K (.ref CS) (.ref CS) = some true
  mS : PySem.W.exmOne K (.ref CS) (.ref CE) = some true
theorem _root_.Gr.ErrTxt2.ce {P : Program} {K : PySem.W.Frag} {C fI : Addr} {qn msg : Str} (T : Gr.ErrTxt2 P K C fI qn msg) : Gc.ClsE K C := ⟨T.ga, T.gg, T.exC, T.hdC⟩
/-- a refusal: its class, what it keeps, what is told of it -/
def Rf (CA CN CP CS C : Addr) (fs : List (Str × V)) (vals : List V) : Prop :=
  (∃ v, CA = C ∧ fs = [(("found" : Str), v)] ∧ vals = [.str "alone", v]) ∨ (∃ v, CN = C ∧ fs = [(("found" : Str), v)] ∧ vals = [.str "make", v]) ∨ (∃ v, CP = C ∧ fs = [(("found" : Str), v)] ∧ vals = [.str "place", v]) ∨ (∃ v v2, CS = C ∧ fs = [(("low" : Str), v), (("high" : Str), v2)] ∧ vals = [.str "stretch", v, v2])
section
variable {P : Program} {w : World} {K : PySem.W.Frag} {mg : Str → Option Value} {base : Heap} {CA fA CN fN CP fP CS fS CE : Addr}
theorem Rf.exm {C : Addr} {fs : List (Str × V)} {vals : List V} (R : RfT P K mg CA fA CN fN CP fP CS fS CE) (h : Rf CA CN CP CS C fs vals) : PySem.W.exmOne K (.ref C) (.ref CE) = some true := by
  rcases h with ⟨v, rfl, _⟩ | ⟨v, rfl, _⟩ | ⟨v, rfl, _⟩ | ⟨v, v2, rfl, _⟩
  · exact R.mA
  · exact R.mN
  · exact R.mP
  · exact R.mS
def spCt (CA CN CP CS : Addr) : Gc.SpE := fun a cls d vs H Q _ => ∃ (dd C : Addr) (fs : List (Str × V)) (vals : List V), vs = [.ref a] ∧ Rf CA CN CP CS C fs vals ∧ cls = .ref C ∧ d = some dd ∧ H dd = some (.xd fs) ∧ ∀ (l : Addr) (H' : Hp), H l = none → H' l = some (.lst vals) → Same H H' → Q (.ref l) H'
theorem roomM {k j : Nat} {A : Around} {x : Option Value} (r : Room j A) (h : k ≤ j) : L2H.RoomH k (A.mark x) := ⟨by have := r.dp; show A.depth + 3 * k + 5 < recursionLimit; omega, by have := r.un; show A.units + 16 * k + 200 < cLine; omega⟩
theorem ok_ct (T : Txt K mg) (R : RfT P K mg CA fA CN fN CP fP CS fS CE) (D : DefAt K mg "_law_caught" s__law_caught ["_law_e"]) : Gc.CalE P w K mg base 1 "_law_caught" (spCt CA CN CP CS) := by
  refine Gc.DefAt.calE D sc__law_caught (fun a cls d vs H Q E h => ?_) (fun f cdv A outer s H vs Q E p cls d hz hf hr h => ?_)
  · obtain ⟨dd, C, fs, vals, rfl, _⟩ := h
    rfl
  have hp : ((p.1, p.2) : Addr × Obj) ∈ [p] := List.mem_singleton.mpr rfl
  obtain ⟨dd, C, fs, vals, rfl, hc, rfl, rfl, ed, q⟩ := h
  rcases hc with ⟨v, rfl, rfl, rfl⟩ | ⟨v, rfl, rfl, rfl⟩ | ⟨v, rfl, rfl, rfl⟩ | ⟨v, v2, rfl, rfl, rfl⟩
  · refine ⟨_, (pss_cons (ps_if (pt_val (pe_callB (Gc.call_isP R.e_Alone.ce R.iA hp hz hf) (by rfl) T.b_isinstance boot_isinstance_ (pa_cons (pv 0) (pa_cons (pe_glob (v := .ref CA) (by rfl) R.g_Alone rfl) pa_nil))))
          (pss_one (ps_ret (pe_lst (pa_cons pe_str (pa_cons (Gc.pe_fldP R.e_Alone.ce R.e_Alone.noN hp hz hf (pv 0)) pa_nil))))) pss_nil)
      (pss_cons ps_never (pss_cons ps_never (pss_cons ps_never (pss_one ps_never))))), ?_⟩
    refine ⟨_, rfl, .ref CA, .ref CA, true, dd, _, rfl, rfl, rfl, ed, .own CA, R.kAA, _, rfl, iteT ?_⟩
    refine ⟨_, rfl, rfl, rfl, dd, _, v, rfl, ed, rfl, (by show 2 ≤ sizeLine; decide), fun l hl => ?_⟩
    exact q l _ hl upd_same (same_new hl)
  · refine ⟨_, (pss_cons (ps_if (pt_val (pe_callB (Gc.call_isP R.e_NoMake.ce R.iN hp hz hf) (by rfl) T.b_isinstance boot_isinstance_ (pa_cons (pv 0) (pa_cons (pe_glob (v := .ref CA) (by rfl) R.g_Alone rfl) pa_nil)))) (pss_one ps_never) pss_nil)
      (pss_cons (ps_if (pt_val (pe_callB (Gc.call_isP R.e_NoMake.ce R.iN hp hz hf) (by rfl) T.b_isinstance boot_isinstance_ (pa_cons (pv 0) (pa_cons (pe_glob (v := .ref CN) (by rfl) R.g_NoMake rfl) pa_nil))))
          (pss_one (ps_ret (pe_lst (pa_cons pe_str (pa_cons (Gc.pe_fldP R.e_NoMake.ce R.e_NoMake.noN hp hz hf (pv 0)) pa_nil))))) pss_nil)
      (pss_cons ps_never (pss_cons ps_never (pss_one ps_never))))), ?_⟩
    refine ⟨_, rfl, .ref CA, .ref CA, false, dd, _, rfl, rfl, rfl, ed, .own CA, R.kNA, _, rfl, iteF ?_⟩
    refine ⟨_, rfl, .ref CN, .ref CN, true, dd, _, rfl, rfl, rfl, ed, .own CN, R.kNN, _, rfl, iteT ?_⟩
    refine ⟨_, rfl, rfl, rfl, dd, _, v, rfl, ed, rfl, (by show 2 ≤ sizeLine; decide), fun l hl => ?_⟩
    exact q l _ hl upd_same (same_new hl)
  · refine ⟨_, (pss_cons (ps_if (pt_val (pe_callB (Gc.call_isP R.e_NoPlace.ce R.iP hp hz hf) (by rfl) T.b_isinstance boot_isinstance_ (pa_cons (pv 0) (pa_cons (pe_glob (v := .ref CA) (by rfl) R.g_Alone rfl) pa_nil)))) (pss_one ps_never) pss_nil)
      (pss_cons (ps_if (pt_val (pe_callB (Gc.call_isP R.e_NoPlace.ce R.iP hp hz hf) (by rfl) T.b_isinstance boot_isinstance_ (pa_cons (pv 0) (pa_cons (pe_glob (v := .ref CN) (by rfl) R.g_NoMake rfl) pa_nil)))) (pss_one ps_never) pss_nil)
      (pss_cons (ps_if (pt_val (pe_callB (Gc.call_isP R.e_NoPlace.ce R.iP hp hz hf) (by rfl) T.b_isinstance boot_isinstance_ (pa_cons (pv 0) (pa_cons (pe_glob (v := .ref CP) (by rfl) R.g_NoPlace rfl) pa_nil))))
          (pss_one (ps_ret (pe_lst (pa_cons pe_str (pa_cons (Gc.pe_fldP R.e_NoPlace.ce R.e_NoPlace.noN hp hz hf (pv 0)) pa_nil))))) pss_nil)
      (pss_cons ps_never (pss_one ps_never))))), ?_⟩
    refine ⟨_, rfl, .ref CA, .ref CA, false, dd, _, rfl, rfl, rfl, ed, .own CA, R.kPA, _, rfl, iteF ?_⟩
    refine ⟨_, rfl, .ref CN, .ref CN, false, dd, _, rfl, rfl, rfl, ed, .own CN, R.kPN, _, rfl, iteF ?_⟩
    refine ⟨_, rfl, .ref CP, .ref CP, true, dd, _, rfl, rfl, rfl, ed, .own CP, R.kPP, _, rfl, iteT ?_⟩
    refine ⟨_, rfl, rfl, rfl, dd, _, v, rfl, ed, rfl, (by show 2 ≤ sizeLine; decide), fun l hl => ?_⟩
    exact q l _ hl upd_same (same_new hl)
  · refine ⟨_, (pss_cons (ps_if (pt_val (pe_callB (Gc.call_isP R.e_NoStretch.ce R.iS hp hz hf) (by rfl) T.b_isinstance boot_isinstance_ (pa_cons (pv 0) (pa_cons (pe_glob (v := .ref CA) (by rfl) R.g_Alone rfl) pa_nil)))) (pss_one ps_never) pss_nil)
      (pss_cons (ps_if (pt_val (pe_callB (Gc.call_isP R.e_NoStretch.ce R.iS hp hz hf) (by rfl) T.b_isinstance boot_isinstance_ (pa_cons (pv 0) (pa_cons (pe_glob (v := .ref CN) (by rfl) R.g_NoMake rfl) pa_nil)))) (pss_one ps_never) pss_nil)
      (pss_cons (ps_if (pt_val (pe_callB (Gc.call_isP R.e_NoStretch.ce R.iS hp hz hf) (by rfl) T.b_isinstance boot_isinstance_ (pa_cons (pv 0) (pa_cons (pe_glob (v := .ref CP) (by rfl) R.g_NoPlace rfl) pa_nil)))) (pss_one ps_never) pss_nil)
      (pss_cons (ps_if (pt_val (pe_callB (Gc.call_isP R.e_NoStretch.ce R.iS hp hz hf) (by rfl) T.b_isinstance boot_isinstance_ (pa_cons (pv 0) (pa_cons (pe_glob (v := .ref CS) (by rfl) R.g_NoStretch rfl) pa_nil))))
          (pss_one (ps_ret (pe_lst (pa_cons pe_str (pa_cons (Gc.pe_fldP R.e_NoStretch.ce R.e_NoStretch.noN hp hz hf (pv 0)) (pa_cons (Gc.pe_fldP R.e_NoStretch.ce R.e_NoStretch.noM hp hz hf (pv 0)) pa_nil)))))) pss_nil)
      (pss_one ps_never))))), ?_⟩
    refine ⟨_, rfl, .ref CA, .ref CA, false, dd, _, rfl, rfl, rfl, ed, .own CA, R.kSA, _, rfl, iteF ?_⟩
    refine ⟨_, rfl, .ref CN, .ref CN, false, dd, _, rfl, rfl, rfl, ed, .own CN, R.kSN, _, rfl, iteF ?_⟩
    refine ⟨_, rfl, .ref CP, .ref CP, false, dd, _, rfl, rfl, rfl, ed, .own CP, R.kSP, _, rfl, iteF ?_⟩
    refine ⟨_, rfl, .ref CS, .ref CS, true, dd, _, rfl, rfl, rfl, ed, .own CS, R.kSS, _, rfl, iteT ?_⟩
    refine ⟨_, rfl, rfl, rfl, dd, _, v, rfl, ed, rfl, _, rfl, rfl, rfl, dd, _, v2, rfl, ed, rfl, (by show 3 ≤ sizeLine; decide), fun l hl => ?_⟩
    exact q l _ hl upd_same (same_new hl)
end
end K46
namespace K46
open PySem PySem.Spec PyProof.Rows L2 Gd Gs Gx Ge
open NdefX (NScope nscope_by ncx startF NF)
open C8 (clsBody Met pe_mt pe_mt0)
section
variable {P : Program} {w : World} {K : PySem.W.Frag} {mg : Str → Option Value} {base : Heap} {C CL CA fA CN fN CP fP CS fS CE : Addr}
/-- a thing that is no kept make -/
def NoK (ow ks : List Nat) (d : PyData) : Prop := wholeD d 0 (ow.length : Nat) = false ∨ ∃ i : Nat, d = .int (i : Nat) ∧ i ≤ ow.length ∧ i ∉ ks
/-- two that are no stretch -/
def NoS (n : Nat) (d d2 : PyData) : Prop := wholeD d 0 ((n : Nat) - 1 : Int) = false ∨ ∃ l : Nat, d = .int (l : Nat) ∧ l < n ∧ wholeD d2 ((l : Nat) + 1) (n : Nat) = false
abbrev RB (C CL : Addr) (N : Addr → Prop) (H : Hp) (o : Addr) (n : Nat) (ow pc ks : List Nat) (st : Int) (fs : List (Str × V)) : Prop := RowB N H o C CL n ow pc ks st fs
def spNk (K : PySem.W.Frag) (CX C CL : Addr) : Sp := fun vs H Q E => ∃ (N : Addr → Prop) (o : Addr) (n : Nat) (ow pc ks : List Nat) (st : Int) (fs : List (Str × V)) (v : V) (d : PyData), vs = [.ref o, v] ∧ RowB N H o C CL n ow pc ks st fs ∧ D1 K H v d ∧ NoK ow ks d ∧ ∀ a, H a = none → E (.ref CX) (some a) (upd H a (.xd [("found", v)]))
def spNp (K : PySem.W.Frag) (CX C CL : Addr) : Sp := fun vs H Q E => ∃ (N : Addr → Prop) (o : Addr) (n : Nat) (ow pc ks : List Nat) (st : Int) (fs : List (Str × V)) (v : V) (d : PyData), vs = [.ref o, v] ∧ RowB N H o C CL n ow pc ks st fs ∧ D1 K H v d ∧ wholeD d 0 ((n : Nat) - 1 : Int) = false ∧ ∀ a, H a = none → E (.ref CX) (some a) (upd H a (.xd [("found", v)]))
def spNt (K : PySem.W.Frag) (CX C CL : Addr) : Sp := fun vs H Q E => ∃ (N : Addr → Prop) (o : Addr) (n : Nat) (ow pc ks : List Nat) (st : Int) (fs : List (Str × V)) (v : V) (d : PyData), vs = [.ref o, v] ∧ RowB N H o C CL n ow pc ks st fs ∧ D1 K H v d ∧ wholeD d 0 (ow.length : Nat) = false ∧ ∀ a, H a = none → E (.ref CX) (some a) (upd H a (.xd [("found", v)]))
def spNs (K : PySem.W.Frag) (CX C CL : Addr) : Sp := fun vs H Q E => ∃ (N : Addr → Prop) (o : Addr) (n : Nat) (ow pc ks : List Nat) (st : Int) (fs : List (Str × V)) (v v2 : V) (d d2 : PyData), vs = [.ref o, v, v2] ∧ RowB N H o C CL n ow pc ks st fs ∧ D1 K H v d ∧ D1 K H v2 d2 ∧ NoS n d d2 ∧ ∀ a, H a = none → E (.ref CX) (some a) (upd H a (.xd [("low", v), ("high", v2)]))
def spAtK (K : PySem.W.Frag) (CX C CL : Addr) : Sp := fun vs H Q E => ∃ (N : Addr → Prop) (o : Addr) (n : Nat) (ow pc ks : List Nat) (st : Int) (fs : List (Str × V)) (v u : V) (d : PyData), vs = [.ref o, v, u] ∧ RowB N H o C CL n ow pc ks st fs ∧ D1 K H v d ∧ NoK ow ks d ∧ ∀ a, H a = none → E (.ref CX) (some a) (upd H a (.xd [("found", v)]))
def spAtP (K : PySem.W.Frag) (CX C CL : Addr) : Sp := fun vs H Q E => ∃ (N : Addr → Prop) (o : Addr) (n : Nat) (ow pc ks : List Nat) (st : Int) (fs : List (Str × V)) (i : Nat) (v : V) (d : PyData), vs = [.ref o, num i, v] ∧ RowB N H o C CL n ow pc ks st fs ∧ i ≤ ow.length ∧ i ∈ ks ∧ D1 K H v d ∧ wholeD d 0 ((n : Nat) - 1 : Int) = false ∧ ∀ a, H a = none → E (.ref CX) (some a) (upd H a (.xd [("found", v)]))
def spStK (K : PySem.W.Frag) (CX C CL : Addr) : Sp := fun vs H Q E => ∃ (N : Addr → Prop) (o : Addr) (n : Nat) (ow pc ks : List Nat) (st : Int) (fs : List (Str × V)) (v u u2 : V) (d : PyData), vs = [.ref o, v, u, u2] ∧ RowB N H o C CL n ow pc ks st fs ∧ D1 K H v d ∧ NoK ow ks d ∧ ∀ a, H a = none → E (.ref CX) (some a) (upd H a (.xd [("found", v)]))
def spStS (K : PySem.W.Frag) (CX C CL : Addr) : Sp := fun vs H Q E => ∃ (N : Addr → Prop) (o : Addr) (n : Nat) (ow pc ks : List Nat) (st : Int) (fs : List (Str × V)) (i : Nat) (v v2 : V) (d d2 : PyData), vs = [.ref o, num i, v, v2] ∧ RowB N H o C CL n ow pc ks st fs ∧ i ≤ ow.length ∧ i ∈ ks ∧ D1 K H v d ∧ D1 K H v2 d2 ∧ NoS n d d2 ∧ ∀ a, H a = none → E (.ref CX) (some a) (upd H a (.xd [("low", v), ("high", v2)]))
def spWrK (K : PySem.W.Frag) (CX C CL : Addr) : Sp := fun vs H Q E => ∃ (N : Addr → Prop) (o : Addr) (n : Nat) (ow pc ks : List Nat) (st : Int) (fs : List (Str × V)) (v u : V) (d : PyData), vs = [.ref o, v, u] ∧ RowB N H o C CL n ow pc ks st fs ∧ D1 K H v d ∧ wholeD d 0 (ow.length : Nat) = false ∧ ∀ a, H a = none → E (.ref CX) (some a) (upd H a (.xd [("found", v)]))
def spWrP (K : PySem.W.Frag) (CX C CL : Addr) : Sp := fun vs H Q E => ∃ (N : Addr → Prop) (o : Addr) (n : Nat) (ow pc ks : List Nat) (st : Int) (fs : List (Str × V)) (i : Nat) (v : V) (d : PyData), vs = [.ref o, num i, v] ∧ RowB N H o C CL n ow pc ks st fs ∧ i ≤ ow.length ∧ D1 K H v d ∧ wholeD d 0 ((n : Nat) - 1 : Int) = false ∧ ∀ a, H a = none → E (.ref CX) (some a) (upd H a (.xd [("found", v)]))
def spAlone (CX C CL : Addr) : Sp := fun vs H Q E => ∃ (N : Addr → Prop) (o : Addr) (n : Nat) (ow pc : List Nat) (st : Int) (fs : List (Str × V)) (i : Nat), vs = [.ref o, num i] ∧ RowB N H o C CL n ow pc [i] st fs ∧ i ≤ ow.length ∧ ∀ a, H a = none → E (.ref CX) (some a) (upd H a (.xd [("found", num i)]))
theorem ok_nk (T : Txt K mg) (R : RfT P K mg CA fA CN fN CP fP CS fS CE) (OC : RowC K C) (c_is_whole : C8.Cal P w K mg base 1 "is_whole" (spWhole K) []) (m_many : Met P w K mg base 1 C "many" (spRMany C CL) []) (M : MAt K C "need_make" "Rows.need_make" s_Rows_need_make ["self", "make"]) : MetX P w K mg base 2 C "need_make" (spNk K CN C CL) := by
  refine M.metX OC.cl sc_Rows_need_make (fun vs H Q E h => ?_) (fun f cdv A outer s H vs Q E hr h => ?_)
  · obtain ⟨N, o, n, ow, pc, ks, st, fs, v, d, rfl, _⟩ := h
    rfl
  · obtain ⟨N, o, n, ow, pc, ks, st, fs, v, d, rfl, r, rest⟩ := h
    obtain ⟨dx, e1, nl⟩ := r.ins
    obtain ⟨hd, bad, q⟩ := rest
    refine ⟨_, (pss_one (ps_if (PW.pt (pw_or (pt_not (pt_val (C8.pe_c c_is_whole hr (by decide) (by rfl) (pa_cons (pv 1) (pa_cons pe_int (pa_cons (pe_op op_sub (pe_mt0 m_many hr (by decide) (pv 0)) pe_int) pa_nil)))))) (pw_or1 (pt_cmpR op_notIn_seq (pv 1) (pe_fld (pv 0) rfl) (by rfl)))))
          (pss_one (ps_raiseE rfl R.e_NoMake R.g_NoMake hr (takes_of rfl rfl rfl rfl) (by exact (pa_cons (pv 1) pa_nil)) (by rfl))) pss_nil)), ?_⟩
    refine ⟨_, rfl, _, rfl, o, dx, fs, rfl, e1, nl _ (by decide), N, o, n, ow, pc, ks, st, fs, rfl, r, _, _, rfl, rfl, v, d, 0, (ow.length : Nat), ?_, hd, ?_⟩
    · show [v, V.int 0, V.int (((ow.length + 1 : Nat) : Int) - 1)] = _
      rw [show ((ow.length + 1 : Nat) : Int) - 1 = (ow.length : Nat) from by omega]
    cases hw : wholeD d 0 (ow.length : Nat) with
    | false => exact ⟨_, rfl, iteT (iteT ⟨_, rfl, v, rfl, q⟩)⟩
    | true =>
      obtain ⟨i, rfl, hi, hn⟩ : ∃ i : Nat, d = .int (i : Nat) ∧ i ≤ ow.length ∧ i ∉ ks := bad.elim (fun z => by rw [z] at hw; cases hw) id
      obtain rfl := d1Int hd
      obtain ⟨dx, t, p, kk, Nt, e1, l1, l2, l3, l4, l5, nl, lf, lw, e2, e3, _⟩ := r.ex
      refine ⟨_, rfl, iteF ?_⟩
      refine ⟨_, rfl, _, rfl, o, C, dx, fs, .ref kk, rfl, e1, OC.cl, OC.n_kept, l4, kk, _, rfl, .inl (SqL.of e3), rfl, flat_nums ks, ?_⟩
      rw [show (V.int ((i : Nat) : Int)) = num i from rfl, nin_nums hn]
      exact ⟨_, rfl, iteT ⟨_, rfl, _, rfl, q⟩⟩
theorem ok_npB (T : Txt K mg) (R : RfT P K mg CA fA CN fN CP fP CS fS CE) (OC : RowC K C) (c_is_whole : C8.Cal P w K mg base 1 "is_whole" (spWhole K) []) (m_size : Met P w K mg base 1 C "size" (spSize C CL) []) (M : MAt K C "need_place" "Rows.need_place" s_Rows_need_place ["self", "place"]) : MetX P w K mg base 2 C "need_place" (spNp K CP C CL) := by
  refine M.metX OC.cl sc_Rows_need_place (fun vs H Q E h => ?_) (fun f cdv A outer s H vs Q E hr h => ?_)
  · obtain ⟨N, o, n, ow, pc, ks, st, fs, v, d, rfl, _⟩ := h
    rfl
  · obtain ⟨N, o, n, ow, pc, ks, st, fs, v, d, rfl, r, rest⟩ := h
    obtain ⟨dx, e1, nl⟩ := r.ins
    obtain ⟨hd, bad, q⟩ := rest
    refine ⟨_, (pss_one (ps_if (pt_not (pt_val (C8.pe_c c_is_whole hr (by decide) (by rfl) (pa_cons (pv 1) (pa_cons pe_int (pa_cons (pe_op op_sub (pe_mt0 m_size hr (by decide) (pv 0)) pe_int) pa_nil))))))
          (pss_one (ps_raiseE rfl R.e_NoPlace R.g_NoPlace hr (takes_of rfl rfl rfl rfl) (by exact (pa_cons (pv 1) pa_nil)) (by rfl))) pss_nil)), ?_⟩
    refine ⟨_, rfl, _, rfl, o, dx, fs, rfl, e1, nl _ (by decide), N, o, n, ow, pc, ks, st, fs, rfl, r, _, _, rfl, rfl, v, d, 0, ((n : Nat) - 1 : Int), rfl, hd, ?_⟩
    rw [bad]
    exact ⟨_, rfl, iteT ⟨_, rfl, v, rfl, q⟩⟩
theorem ok_nt (T : Txt K mg) (R : RfT P K mg CA fA CN fN CP fP CS fS CE) (OC : RowC K C) (c_is_whole : C8.Cal P w K mg base 1 "is_whole" (spWhole K) []) (m_many : Met P w K mg base 1 C "many" (spRMany C CL) []) (M : MAt K C "_row_need_there" "Rows._row_need_there" s_Rows__row_need_there ["self", "make"]) : MetX P w K mg base 2 C "_row_need_there" (spNt K CN C CL) := by
  refine M.metX OC.cl sc_Rows__row_need_there (fun vs H Q E h => ?_) (fun f cdv A outer s H vs Q E hr h => ?_)
  · obtain ⟨N, o, n, ow, pc, ks, st, fs, v, d, rfl, _⟩ := h
    rfl
  · obtain ⟨N, o, n, ow, pc, ks, st, fs, v, d, rfl, r, rest⟩ := h
    obtain ⟨dx, e1, nl⟩ := r.ins
    obtain ⟨hd, bad, q⟩ := rest
    refine ⟨_, (pss_one (ps_if (pt_not (pt_val (C8.pe_c c_is_whole hr (by decide) (by rfl) (pa_cons (pv 1) (pa_cons pe_int (pa_cons (pe_op op_sub (pe_mt0 m_many hr (by decide) (pv 0)) pe_int) pa_nil))))))
          (pss_one (ps_raiseE rfl R.e_NoMake R.g_NoMake hr (takes_of rfl rfl rfl rfl) (by exact (pa_cons (pv 1) pa_nil)) (by rfl))) pss_nil)), ?_⟩
    refine ⟨_, rfl, _, rfl, o, dx, fs, rfl, e1, nl _ (by decide), N, o, n, ow, pc, ks, st, fs, rfl, r, _, _, rfl, rfl, v, d, 0, (ow.length : Nat), ?_, hd, ?_⟩
    · show [v, V.int 0, V.int (((ow.length + 1 : Nat) : Int) - 1)] = _
      rw [show ((ow.length + 1 : Nat) : Int) - 1 = (ow.length : Nat) from by omega]
    rw [bad]
    exact ⟨_, rfl, iteT ⟨_, rfl, v, rfl, q⟩⟩
theorem ok_ns (T : Txt K mg) (R : RfT P K mg CA fA CN fN CP fP CS fS CE) (OC : RowC K C) (c_is_whole : C8.Cal P w K mg base 1 "is_whole" (spWhole K) []) (m_size : Met P w K mg base 1 C "size" (spSize C CL) []) (M : MAt K C "need_stretch" "Rows.need_stretch" s_Rows_need_stretch ["self", "low", "high"]) : MetX P w K mg base 2 C "need_stretch" (spNs K CS C CL) := by
  refine M.metX OC.cl sc_Rows_need_stretch (fun vs H Q E h => ?_) (fun f cdv A outer s H vs Q E hr h => ?_)
  · obtain ⟨N, o, n, ow, pc, ks, st, fs, v, v2, d, d2, rfl, _⟩ := h
    rfl
  · obtain ⟨N, o, n, ow, pc, ks, st, fs, v, v2, d, d2, rfl, r, rest⟩ := h
    obtain ⟨dx, e1, nl⟩ := r.ins
    obtain ⟨hd, hd2, bad, q⟩ := rest
    refine ⟨_, (pss_one (ps_if (PW.pt (pw_or (pt_not (pt_val (C8.pe_c c_is_whole hr (by decide) (by rfl) (pa_cons (pv 1) (pa_cons pe_int (pa_cons (pe_op op_sub (pe_mt0 m_size hr (by decide) (pv 0)) pe_int) pa_nil)))))) (pw_or1 (pt_not (pt_val (C8.pe_c c_is_whole hr (by decide) (by rfl) (pa_cons (pv 2) (pa_cons (pe_op op_add (pv 1) pe_int) (pa_cons (pe_mt0 m_size hr (by decide) (pv 0)) pa_nil)))))))))
          (pss_one (Gr.ps_raiseE2 rfl R.e_NoStretch R.g_NoStretch hr (takes_of rfl rfl rfl rfl) (by exact (pa_cons (pv 1) (pa_cons (pv 2) pa_nil))) (by rfl))) pss_nil)), ?_⟩
    refine ⟨_, rfl, _, rfl, o, dx, fs, rfl, e1, nl _ (by decide), N, o, n, ow, pc, ks, st, fs, rfl, r, _, _, rfl, rfl, v, d, 0, ((n : Nat) - 1 : Int), rfl, hd, ?_⟩
    cases hw : wholeD d 0 ((n : Nat) - 1 : Int) with
    | false => exact ⟨_, rfl, iteT (iteT ⟨_, rfl, _, rfl, v, v2, rfl, q⟩)⟩
    | true =>
      obtain ⟨l, rfl, hl, hn⟩ : ∃ l : Nat, d = .int (l : Nat) ∧ l < n ∧ wholeD d2 ((l : Nat) + 1) (n : Nat) = false := bad.elim (fun z => by rw [z] at hw; cases hw) id
      obtain rfl := d1Int hd
      refine ⟨_, rfl, iteF ?_⟩
      refine ⟨_, rfl, _, rfl, _, _, rfl, rfl, _, rfl, o, dx, fs, rfl, e1, nl _ (by decide), N, o, n, ow, pc, ks, st, fs, rfl, r, v2, d2, ((l : Nat) + 1 : Int), (n : Nat), rfl, hd2, ?_⟩
      rw [hn]
      exact ⟨_, rfl, iteT ⟨_, rfl, _, rfl, _, v2, rfl, q⟩⟩
theorem ok_atK (T : Txt K mg) (R : RfT P K mg CA fA CN fN CP fP CS fS CE) (OC : RowC K C) (x_need : MetX P w K mg base 2 C "need_make" (spNk K CN C CL)) (m_need_place : Met P w K mg base 2 C "need_place" (spNeedPl C CL) []) (m_worths_in : Met P w K mg base 6 C "worths_in" (spWin C CL) []) (M : MAt K C "at" "Rows.at" s_Rows_at ["self", "make", "place"]) : MetX P w K mg base 7 C "at" (spAtK K CN C CL) := by
  refine M.metX OC.cl sc_Rows_at (fun vs H Q E h => ?_) (fun f cdv A outer s H vs Q E hr h => ?_)
  · obtain ⟨N, o, n, ow, pc, ks, st, fs, v, u, d, rfl, _⟩ := h
    rfl
  · obtain ⟨N, o, n, ow, pc, ks, st, fs, v, u, d, rfl, r, rest⟩ := h
    obtain ⟨dx, e1, nl⟩ := r.ins
    refine ⟨_, (pss_cons (ps_expr (pe_mtX x_need hr (by decide) (takes_of rfl rfl rfl rfl) (pv 0) (pa_cons (pv 1) pa_nil)))
      (pss_cons (ps_expr (pe_mt m_need_place hr (by decide) (pv 0) (pa_cons (pv 2) pa_nil)))
      (pss_one (ps_ret (pe_ix ix_list (pe_mt m_worths_in hr (by decide) (pv 0) (pa_cons (pv 1) (pa_cons (pv 2) (pa_cons (pe_op op_add (pv 2) pe_int) pa_nil)))) pe_int (fun _ _ => rfl)))))), ?_⟩
    exact ⟨_, rfl, o, dx, fs, rfl, e1, nl _ (by decide), _, rfl, N, o, n, ow, pc, ks, st, fs, v, d, rfl, r, rest⟩
theorem ok_atP (T : Txt K mg) (R : RfT P K mg CA fA CN fN CP fP CS fS CE) (OC : RowC K C) (m_need_make : Met P w K mg base 2 C "need_make" (spNeedMk C CL) []) (x_place : MetX P w K mg base 2 C "need_place" (spNp K CP C CL)) (m_worths_in : Met P w K mg base 6 C "worths_in" (spWin C CL) []) (M : MAt K C "at" "Rows.at" s_Rows_at ["self", "make", "place"]) : MetX P w K mg base 7 C "at" (spAtP K CP C CL) := by
  refine M.metX OC.cl sc_Rows_at (fun vs H Q E h => ?_) (fun f cdv A outer s H vs Q E hr h => ?_)
  · obtain ⟨N, o, n, ow, pc, ks, st, fs, i, v, d, rfl, _⟩ := h
    rfl
  · obtain ⟨N, o, n, ow, pc, ks, st, fs, i, v, d, rfl, r, rest⟩ := h
    obtain ⟨dx, e1, nl⟩ := r.ins
    obtain ⟨hi, hk, rest⟩ := rest
    refine ⟨_, (pss_cons (ps_expr (pe_mt m_need_make hr (by decide) (pv 0) (pa_cons (pv 1) pa_nil)))
      (pss_cons (ps_expr (pe_mtX x_place hr (by decide) (takes_of rfl rfl rfl rfl) (pv 0) (pa_cons (pv 2) pa_nil)))
      (pss_one (ps_ret (pe_ix ix_list (pe_mt m_worths_in hr (by decide) (pv 0) (pa_cons (pv 1) (pa_cons (pv 2) (pa_cons (pe_op op_add (pv 2) pe_int) pa_nil)))) pe_int (fun _ _ => rfl)))))), ?_⟩
    exact ⟨_, rfl, o, dx, fs, rfl, e1, nl _ (by decide), _, rfl, N, o, n, ow, pc, ks, st, fs, i, rfl, r, hi, hk, _, rfl, o, dx, fs, rfl, e1, nl _ (by decide), _, rfl, N, o, n, ow, pc, ks, st, fs, v, d, rfl, r, rest⟩
theorem ok_rowK (T : Txt K mg) (R : RfT P K mg CA fA CN fN CP fP CS fS CE) (OC : RowC K C) (x_need : MetX P w K mg base 2 C "need_make" (spNk K CN C CL)) (m_size : Met P w K mg base 1 C "size" (spSize C CL) []) (m_worths_in : Met P w K mg base 6 C "worths_in" (spWin C CL) []) (M : MAt K C "row" "Rows.row" s_Rows_row ["self", "make"]) : MetX P w K mg base 7 C "row" (spNk K CN C CL) := by
  refine M.metX OC.cl sc_Rows_row (fun vs H Q E h => ?_) (fun f cdv A outer s H vs Q E hr h => ?_)
  · obtain ⟨N, o, n, ow, pc, ks, st, fs, v, d, rfl, _⟩ := h
    rfl
  · obtain ⟨N, o, n, ow, pc, ks, st, fs, v, d, rfl, r, rest⟩ := h
    obtain ⟨dx, e1, nl⟩ := r.ins
    refine ⟨_, (pss_cons (ps_expr (pe_mtX x_need hr (by decide) (takes_of rfl rfl rfl rfl) (pv 0) (pa_cons (pv 1) pa_nil)))
      (pss_one (ps_ret (pe_callTy call_list_of (by rfl) T.t_list boot_list_ (pa_cons (pe_mt m_worths_in hr (by decide) (pv 0) (pa_cons (pv 1) (pa_cons pe_int (pa_cons (pe_mt0 m_size hr (by decide) (pv 0)) pa_nil)))) pa_nil))))), ?_⟩
    exact ⟨_, rfl, o, dx, fs, rfl, e1, nl _ (by decide), _, rfl, N, o, n, ow, pc, ks, st, fs, v, d, rfl, r, rest⟩
theorem ok_stK (T : Txt K mg) (R : RfT P K mg CA fA CN fN CP fP CS fS CE) (OC : RowC K C) (x_need : MetX P w K mg base 2 C "need_make" (spNk K CN C CL)) (m_need_stretch : Met P w K mg base 2 C "need_stretch" (spNeedSt C CL) []) (m_worths_in : Met P w K mg base 6 C "worths_in" (spWin C CL) []) (M : MAt K C "stretch" "Rows.stretch" s_Rows_stretch ["self", "make", "low", "high"]) : MetX P w K mg base 7 C "stretch" (spStK K CN C CL) := by
  refine M.metX OC.cl sc_Rows_stretch (fun vs H Q E h => ?_) (fun f cdv A outer s H vs Q E hr h => ?_)
  · obtain ⟨N, o, n, ow, pc, ks, st, fs, v, u, u2, d, rfl, _⟩ := h
    rfl
  · obtain ⟨N, o, n, ow, pc, ks, st, fs, v, u, u2, d, rfl, r, rest⟩ := h
    obtain ⟨dx, e1, nl⟩ := r.ins
    refine ⟨_, (pss_cons (ps_expr (pe_mtX x_need hr (by decide) (takes_of rfl rfl rfl rfl) (pv 0) (pa_cons (pv 1) pa_nil)))
      (pss_cons (ps_expr (pe_mt m_need_stretch hr (by decide) (pv 0) (pa_cons (pv 2) (pa_cons (pv 3) pa_nil))))
      (pss_one (ps_ret (pe_callTy call_list_of (by rfl) T.t_list boot_list_ (pa_cons (pe_mt m_worths_in hr (by decide) (pv 0) (pa_cons (pv 1) (pa_cons (pv 2) (pa_cons (pv 3) pa_nil)))) pa_nil)))))), ?_⟩
    exact ⟨_, rfl, o, dx, fs, rfl, e1, nl _ (by decide), _, rfl, N, o, n, ow, pc, ks, st, fs, v, d, rfl, r, rest⟩
theorem ok_stS (T : Txt K mg) (R : RfT P K mg CA fA CN fN CP fP CS fS CE) (OC : RowC K C) (m_need_make : Met P w K mg base 2 C "need_make" (spNeedMk C CL) []) (x_stretch : MetX P w K mg base 2 C "need_stretch" (spNs K CS C CL)) (m_worths_in : Met P w K mg base 6 C "worths_in" (spWin C CL) []) (M : MAt K C "stretch" "Rows.stretch" s_Rows_stretch ["self", "make", "low", "high"]) : MetX P w K mg base 7 C "stretch" (spStS K CS C CL) := by
  refine M.metX OC.cl sc_Rows_stretch (fun vs H Q E h => ?_) (fun f cdv A outer s H vs Q E hr h => ?_)
  · obtain ⟨N, o, n, ow, pc, ks, st, fs, i, v, v2, d, d2, rfl, _⟩ := h
    rfl
  · obtain ⟨N, o, n, ow, pc, ks, st, fs, i, v, v2, d, d2, rfl, r, rest⟩ := h
    obtain ⟨dx, e1, nl⟩ := r.ins
    obtain ⟨hi, hk, rest⟩ := rest
    refine ⟨_, (pss_cons (ps_expr (pe_mt m_need_make hr (by decide) (pv 0) (pa_cons (pv 1) pa_nil)))
      (pss_cons (ps_expr (pe_mtX x_stretch hr (by decide) (takes_of rfl rfl rfl rfl) (pv 0) (pa_cons (pv 2) (pa_cons (pv 3) pa_nil))))
      (pss_one (ps_ret (pe_callTy call_list_of (by rfl) T.t_list boot_list_ (pa_cons (pe_mt m_worths_in hr (by decide) (pv 0) (pa_cons (pv 1) (pa_cons (pv 2) (pa_cons (pv 3) pa_nil)))) pa_nil)))))), ?_⟩
    exact ⟨_, rfl, o, dx, fs, rfl, e1, nl _ (by decide), _, rfl, N, o, n, ow, pc, ks, st, fs, i, rfl, r, hi, hk, _, rfl, o, dx, fs, rfl, e1, nl _ (by decide), _, rfl, _, rfl, N, o, n, ow, pc, ks, st, fs, v, v2, d, d2, rfl, r, rest⟩
theorem ok_wrK (T : Txt K mg) (R : RfT P K mg CA fA CN fN CP fP CS fS CE) (OC : RowC K C) (x_there : MetX P w K mg base 2 C "_row_need_there" (spNt K CN C CL)) (m_need_place : Met P w K mg base 2 C "need_place" (spNeedPl C CL) []) (m__up_to_writer : Met P w K mg base 4 C "_up_to_writer" (spUpw C CL) []) (M : MAt K C "writer" "Rows.writer" s_Rows_writer ["self", "make", "place"]) : MetX P w K mg base 5 C "writer" (spWrK K CN C CL) := by
  refine M.metX OC.cl sc_Rows_writer (fun vs H Q E h => ?_) (fun f cdv A outer s H vs Q E hr h => ?_)
  · obtain ⟨N, o, n, ow, pc, ks, st, fs, v, u, d, rfl, _⟩ := h
    rfl
  · obtain ⟨N, o, n, ow, pc, ks, st, fs, v, u, d, rfl, r, rest⟩ := h
    obtain ⟨dx, e1, nl⟩ := r.ins
    refine ⟨_, (pss_cons (ps_expr (pe_mtX x_there hr (by decide) (takes_of rfl rfl rfl rfl) (pv 0) (pa_cons (pv 1) pa_nil)))
      (pss_cons (ps_expr (pe_mt m_need_place hr (by decide) (pv 0) (pa_cons (pv 2) pa_nil)))
      (pss_one (ps_ret (pe_ix ix_list (pe_mt m__up_to_writer hr (by decide) (pv 0) (pa_cons (pv 1) (pa_cons (pv 2) pa_nil))) (pe_un un_neg pe_int) (fun _ _ => rfl)))))), ?_⟩
    exact ⟨_, rfl, o, dx, fs, rfl, e1, nl _ (by decide), _, rfl, N, o, n, ow, pc, ks, st, fs, v, d, rfl, r, rest⟩
theorem ok_wrP (T : Txt K mg) (R : RfT P K mg CA fA CN fN CP fP CS fS CE) (OC : RowC K C) (m__row_need_there : Met P w K mg base 2 C "_row_need_there" (spThere C CL) []) (x_place : MetX P w K mg base 2 C "need_place" (spNp K CP C CL)) (m__up_to_writer : Met P w K mg base 4 C "_up_to_writer" (spUpw C CL) []) (M : MAt K C "writer" "Rows.writer" s_Rows_writer ["self", "make", "place"]) : MetX P w K mg base 5 C "writer" (spWrP K CP C CL) := by
  refine M.metX OC.cl sc_Rows_writer (fun vs H Q E h => ?_) (fun f cdv A outer s H vs Q E hr h => ?_)
  · obtain ⟨N, o, n, ow, pc, ks, st, fs, i, v, d, rfl, _⟩ := h
    rfl
  · obtain ⟨N, o, n, ow, pc, ks, st, fs, i, v, d, rfl, r, rest⟩ := h
    obtain ⟨dx, e1, nl⟩ := r.ins
    obtain ⟨hi, rest⟩ := rest
    refine ⟨_, (pss_cons (ps_expr (pe_mt m__row_need_there hr (by decide) (pv 0) (pa_cons (pv 1) pa_nil)))
      (pss_cons (ps_expr (pe_mtX x_place hr (by decide) (takes_of rfl rfl rfl rfl) (pv 0) (pa_cons (pv 2) pa_nil)))
      (pss_one (ps_ret (pe_ix ix_list (pe_mt m__up_to_writer hr (by decide) (pv 0) (pa_cons (pv 1) (pa_cons (pv 2) pa_nil))) (pe_un un_neg pe_int) (fun _ _ => rfl)))))), ?_⟩
    exact ⟨_, rfl, o, dx, fs, rfl, e1, nl _ (by decide), _, rfl, N, o, n, ow, pc, ks, st, fs, i, rfl, r, hi, _, rfl, o, dx, fs, rfl, e1, nl _ (by decide), _, rfl, N, o, n, ow, pc, ks, st, fs, v, d, rfl, r, rest⟩
theorem ok_poK (T : Txt K mg) (R : RfT P K mg CA fA CN fN CP fP CS fS CE) (OC : RowC K C) (x_there : MetX P w K mg base 2 C "_row_need_there" (spNt K CN C CL)) (M : MAt K C "place_of" "Rows.place_of" s_Rows_place_of ["self", "make"]) : MetX P w K mg base 3 C "place_of" (spNt K CN C CL) := by
  refine M.metX OC.cl sc_Rows_place_of (fun vs H Q E h => ?_) (fun f cdv A outer s H vs Q E hr h => ?_)
  · obtain ⟨N, o, n, ow, pc, ks, st, fs, v, d, rfl, _⟩ := h
    rfl
  · obtain ⟨N, o, n, ow, pc, ks, st, fs, v, d, rfl, r, rest⟩ := h
    obtain ⟨dx, e1, nl⟩ := r.ins
    refine ⟨_, (pss_cons (ps_expr (pe_mtX x_there hr (by decide) (takes_of rfl rfl rfl rfl) (pv 0) (pa_cons (pv 1) pa_nil)))
      (pss_one (ps_ret (pe_ix ix_list (pe_fld (pv 0) rfl) (pv 1) (fun _ _ => rfl))))), ?_⟩
    exact ⟨_, rfl, o, dx, fs, rfl, e1, nl _ (by decide), _, rfl, N, o, n, ow, pc, ks, st, fs, v, d, rfl, r, rest⟩
theorem fn_goK {f : Addr} {fd : FuncData} (T : Txt K mg) (R : RfT P K mg CA fA CN fN CP fP CS fS CE) (OC : RowC K C) (x_need : MetX P w K mg base 2 C "need_make" (spNk K CN C CL)) (m_freed : Met P w K mg base 6 C "freed" (spFreed C CL) []) (F : Fun K "let_go" "Rows.let_go" s_Rows_let_go f fd) : FnOk P w K mg base (L2.CX P w) 7 f fd ["self", "make"] (spNk K CN C CL) := by
  refine F.okX sc_Rows_let_go (fun vs H Q E h => ?_) (fun cdv A outer s H vs Q E hr h => ?_)
  · obtain ⟨N, o, n, ow, pc, ks, st, fs, v, d, rfl, _⟩ := h
    rfl
  · obtain ⟨N, o, n, ow, pc, ks, st, fs, v, d, rfl, r, rest⟩ := h
    obtain ⟨dx, e1, nl⟩ := r.ins
    refine ⟨_, (pss_cons (ps_expr (pe_mtX x_need hr (by decide) (takes_of rfl rfl rfl rfl) (pv 0) (pa_cons (pv 1) pa_nil)))
      (pss_cons (ps_if (pt_cmpR op_eq (pe_callB call_len (by rfl) T.b_len boot_len_ (pa_cons (pe_fld (pv 0) rfl) pa_nil)) pe_int (nomark _))
          (pss_one (ps_raiseE rfl R.e_Alone R.g_Alone hr (takes_of rfl rfl rfl rfl) (by exact (pa_cons (pv 1) pa_nil)) (by rfl))) pss_nil)
      (pss_cons (ps_expr (pe_bm PySem.F.plainAttrs_list PySem.F.slot_list_remove PySem.F.type_list_remove mt_remove (pe_fld (pv 0) rfl) (pa_cons (pv 1) pa_nil)))
      (pss_one (ps_ret (pe_callTy call_list_of (by rfl) T.t_list boot_list_ (pa_cons (pe_mt m_freed hr (by decide) (pv 0) (pa_cons (pv 1) pa_nil)) pa_nil))))))), ?_⟩
    exact ⟨_, rfl, o, dx, fs, rfl, e1, nl _ (by decide), _, rfl, N, o, n, ow, pc, ks, st, fs, v, d, rfl, r, rest⟩
theorem fn_goA {f : Addr} {fd : FuncData} (T : Txt K mg) (R : RfT P K mg CA fA CN fN CP fP CS fS CE) (OC : RowC K C) (m_need_make : Met P w K mg base 2 C "need_make" (spNeedMk C CL) []) (m_freed : Met P w K mg base 6 C "freed" (spFreed C CL) []) (F : Fun K "let_go" "Rows.let_go" s_Rows_let_go f fd) : FnOk P w K mg base (L2.CX P w) 7 f fd ["self", "make"] (spAlone CA C CL) := by
  refine F.okX sc_Rows_let_go (fun vs H Q E h => ?_) (fun cdv A outer s H vs Q E hr h => ?_)
  · obtain ⟨N, o, n, ow, pc, st, fs, i, rfl, _⟩ := h
    rfl
  · obtain ⟨N, o, n, ow, pc, st, fs, i, rfl, r, hi, q⟩ := h
    obtain ⟨dx0, e0, nl0⟩ := r.ins
    obtain ⟨dx, t, p, kk, Nt, e1, l1, l2, l3, l4, l5, nl, lf, lw, e2, e3, _⟩ := r.ex
    refine ⟨_, (pss_cons (ps_expr (pe_mt m_need_make hr (by decide) (pv 0) (pa_cons (pv 1) pa_nil)))
      (pss_cons (ps_if (pt_cmpR op_eq (pe_callB call_len (by rfl) T.b_len boot_len_ (pa_cons (pe_fld (pv 0) rfl) pa_nil)) pe_int (nomark _))
          (pss_one (ps_raiseE rfl R.e_Alone R.g_Alone hr (takes_of rfl rfl rfl rfl) (by exact (pa_cons (pv 1) pa_nil)) (by rfl))) pss_nil)
      (pss_cons (ps_expr (pe_bm PySem.F.plainAttrs_list PySem.F.slot_list_remove PySem.F.type_list_remove mt_remove (pe_fld (pv 0) rfl) (pa_cons (pv 1) pa_nil)))
      (pss_one (ps_ret (pe_callTy call_list_of (by rfl) T.t_list boot_list_ (pa_cons (pe_mt m_freed hr (by decide) (pv 0) (pa_cons (pv 1) pa_nil)) pa_nil))))))), ?_⟩
    refine ⟨_, rfl, o, dx0, fs, rfl, e0, nl0 _ (by decide), _, rfl, N, o, n, ow, pc, [i], st, fs, i, rfl, r, hi, List.mem_singleton.mpr rfl, ?_⟩
    refine ⟨_, rfl, o, C, dx, fs, .ref kk, rfl, e1, OC.cl, OC.n_kept, l4, _, _, rfl, .inl ⟨_, SqL.of e3, rfl⟩, rfl, _, rfl, ?_⟩
    exact iteT ⟨_, rfl, _, rfl, q⟩
theorem ok_goK {g : Addr} {fd : FuncData} (OC : RowC K C) (F : FnOk P w K mg base (L2.CX P w) 7 g fd ["self", "make"] (spNk K CN C CL)) (hb : Binds K fd ["self", "make"] []) (S : SAt P K C "let_go" "Boxed.let_go" s_Boxed_let_go ["self", "make"] g) : MetX P w K mg base 8 C "let_go" (spNk K CN C CL) := by
  obtain ⟨f, cc, c, oc, od, doc, pm, an, ct, osl, sup, lk, me, bi⟩ := S.ex
  refine ⟨f, _, _, OC.cl, me, ?_, bi⟩
  refine okS_ret sup lk ns_go rfl (fun vs H Q E h => ?_) rfl F hb (by rfl) (fun L => by rfl) (fun L => by rfl) (fun L => by rfl) ?_
  · obtain ⟨N, o, n, ow, pc, ks, st, fs, v, d, rfl, _⟩ := h
    rfl
  · rintro A outer s H vs Q E hr ⟨N, o, n, ow, pc, ks, st, fs, v, d, rfl, r, rest⟩
    obtain ⟨dx, e1, nl⟩ := r.ins
    exact ⟨o, dx, fs, E, _, rfl, e1, passes_call (takes_of rfl rfl rfl rfl) (fun _ _ _ _ h => h), (pa_cons (pv 1) pa_nil), _, rfl, N, o, n, ow, pc, ks, st, fs, v, d, rfl, r, rest⟩
theorem ok_goA {g : Addr} {fd : FuncData} (OC : RowC K C) (F : FnOk P w K mg base (L2.CX P w) 7 g fd ["self", "make"] (spAlone CA C CL)) (hb : Binds K fd ["self", "make"] []) (S : SAt P K C "let_go" "Boxed.let_go" s_Boxed_let_go ["self", "make"] g) : MetX P w K mg base 8 C "let_go" (spAlone CA C CL) := by
  obtain ⟨f, cc, c, oc, od, doc, pm, an, ct, osl, sup, lk, me, bi⟩ := S.ex
  refine ⟨f, _, _, OC.cl, me, ?_, bi⟩
  refine okS_ret sup lk ns_go rfl (fun vs H Q E h => ?_) rfl F hb (by rfl) (fun L => by rfl) (fun L => by rfl) (fun L => by rfl) ?_
  · obtain ⟨N, o, n, ow, pc, st, fs, i, rfl, _⟩ := h
    rfl
  · rintro A outer s H vs Q E hr ⟨N, o, n, ow, pc, st, fs, i, rfl, r, rest⟩
    obtain ⟨dx, e1, nl⟩ := r.ins
    exact ⟨o, dx, fs, E, _, rfl, e1, passes_call (takes_of rfl rfl rfl rfl) (fun _ _ _ _ h => h), (pa_cons (pv 1) pa_nil), _, rfl, N, o, n, ow, pc, st, fs, i, rfl, r, rest⟩
end
end K46
namespace K46
open PySem PySem.Spec PyProof.Rows L2 Gd Gs Gx Ge
open C8 (clsBody Met pe_mt pe_mt0)
section
variable {P : Program} {w : World} {K : PySem.W.Frag} {mg : Str → Option Value} {base : Heap} {C CL CA fA CN fN CP fP CS fS CE : Addr}
/-- what a make reads -/
def readsL (ow pc : List Nat) (n i : Nat) : List (Nat × Nat) := (List.range n).map fun q => (q, wrt ow pc q 64 i)
def spReads : Sp := fun vs H Q _ => ∃ (M S : Addr → Prop) (m : Addr) (ws : List Int) (ow pc : List Nat) (vl : List Int) (ks : List Nat) (i : Nat), vs = [.ref m, num i] ∧ MdlR M S H m ws ow pc vl ks ∧ Fit ws ow pc vl ∧ i ≤ ow.length ∧
  ∀ (a : Addr) (H' : Hp) (xs : List V), H a = none → H' a = some (.lst xs) → PrX H' xs (readsL ow pc ws.length i) → (∀ (k : Nat) (t : Addr), xs[k]? = some (.ref t) → H t = none) → Same H H' → Q (.ref a) H'
theorem ok_reads (T : Txt K mg) (c__law_last : CalG P w K mg base 1 "_law_last" spLast) (D : DefAt K mg "_law_reads" s__law_reads ["_law_model_here", "_law_make"]) : CalG P w K mg base 2 "_law_reads" spReads := by
  refine D.cal sc__law_reads (fun vs H Q E h => ?_) (fun f cdv A outer s H vs Q E hG hr h => ?_)
  · obtain ⟨M, S, m, ws, ow, pc, vl, ks, i, rfl, _⟩ := h
    rfl
  · obtain ⟨M, S, m, ws, ow, pc, vl, ks, i, rfl, md, ft, hi, q⟩ := h
    obtain ⟨a, rr, w_, d, kvs, as, h0, rfl, h1, hl, hr', h2, h3, h4, m0, m1, m2, m3, m4, _⟩ := id md.ex
    have few := ft.few
    have sz := ft.sz
    have ev : (fun i : Nat => V.int (0 + ((i : Nat) : Int))) = num := by
      funext i
      show V.int _ = V.int _
      rw [Int.zero_add]
    obtain ⟨xi, hxi⟩ : ∃ xi, as[0]? = some xi := ⟨as[0]'(by omega), List.getElem?_eq_getElem (by omega)⟩
    obtain ⟨sx, exi⟩ := hr' _ xi hxi
    refine ⟨_, (pss_one (ps_ret (pe_lc (own := [("_law_place", 2)]) (g := gName 2) (tt := tYes) rfl sc__law_reads.nd (pi_range1 rfl T.b_range (pa_cons (pe_callB call_len (by rfl) T.b_len boot_len_ (pa_cons (pe_ix ix_list (pe_dget (hu_of hr) (pv 0) pe_str (fun _ _ => rfl)) pe_int (fun _ _ => rfl)) pa_nil)) pa_nil)) (blkOk_by (own := [("_law_place", 2)]) (N := ["_law_model_here", "_law_make", "_law_place"]) (sc := defScope s__law_reads) (by decide +kernel)) (fun _ _ _ _ _ => pg_name (i := 2) sc__law_reads.nd rfl (Or.inl rfl)) (fun _ _ _ _ _ => pts_nil) (fun _ _ _ _ _ => (pe_tup (pa_cons (pv 2) (pa_cons (pe_g c__law_last hG (hr.mono (by decide)) (by rfl) (pa_cons (pv 0) (pa_cons (pv 1) (pa_cons (pv 2) pa_nil)))) pa_nil))))))), ?_⟩
    refine ⟨_, rfl, m, _, rfl, dgs h0 rfl, a, _, _, .ref xi, rfl, rfl, SqL.of h1, atI_nat (j := 0) (by rw [List.getElem?_map, hxi]; rfl), .ref xi, _, rfl, .inl ⟨_, SqL.of exi, rfl⟩, ?_⟩
    rw [List.length_map, rowV_len]
    refine ⟨_, rfl, by omega, by omega, fun B hB => ?_⟩
    rw [Int.toNat_natCast]
    refine lc_it (walk_range (lo := 0) (n := ws.length)) (fun n H' => ∃ xs : List V, Same H H' ∧ H' B = some (.lst xs) ∧ PrX H' xs ((readsL ow pc ws.length i).take n) ∧ xs.length = n ∧ ∀ (k : Nat) (t : Addr), xs[k]? = some (.ref t) → H t = none ∧ t ≠ B) ⟨[], same_new hB, upd_same, ⟨rfl, fun i p e => by cases e⟩, rfl, fun k t e => by cases e⟩ (fun _ _ _ _ => trivial) (fun n v H1 H2 hn hP hY => ?_) (fun H1 hP => ?_)
    · obtain ⟨xs, s1, eB, px, hxn, fx⟩ := hP
      obtain ⟨rfl, rfl⟩ := hY
      rw [ev]
      refine ⟨rfl, yesI ?_⟩
      refine ⟨_, rfl, _, rfl, _, rfl, _, rfl, M, S, m, ws, ow, pc, vl, ks, i, n, rfl, md.same s1, ft, hi, ?_⟩
      refine ⟨(by show 2 ≤ sizeLine; decide), fun t ht => ?_⟩
      have s2 := same_new (o := .tup [num n, num (wrt ow pc n 64 i)]) ht
      have et : (upd H2 t (.tup [num n, num (wrt ow pc n 64 i)])) t = some (.tup [num n, num (wrt ow pc n 64 i)]) := upd_same
      have tB : t ≠ B := (ne_of_none eB ht).symm
      generalize upd H2 t (.tup [num n, num (wrt ow pc n 64 i)]) = H3 at *
      have eB2 := s2 _ _ eB
      have kB : ∀ c u, c ≠ B → H3 c = some u → (upd H3 B (.lst (xs ++ [.ref t]))) c = some u := fun c u hc z => by
        rw [upd_ne hc]
        exact z
      have ktB : ∀ c ys, H3 c = some (.tup ys) → (upd H3 B (.lst (xs ++ [.ref t]))) c = some (.tup ys) := fun c ys z => kB c _ (fun e => by rw [e, eB2] at z; cases z) z
      refine ⟨_, eB2, small1000 (by omega), xs ++ [.ref t], fun c u z => kB c u (ne_of_none z hB) (s2 _ _ (s1 _ _ z)), upd_same, ?_, by rw [List.length_append, hxn]; rfl, fun k t' e => ?_⟩
      · have htk : (readsL ow pc ws.length i).take (n + 1) = (readsL ow pc ws.length i).take n ++ [(n, wrt ow pc n 64 i)] := by
          rw [List.take_add_one]
          unfold readsL
          rw [List.getElem?_map, List.getElem?_range hn]
          rfl
        rw [htk]
        exact px.snoc (p := (n, wrt ow pc n 64 i)) (fun c ys z => ktB c ys (s2 _ _ z)) (kB _ _ tB et)
      · by_cases hk : k < xs.length
        · rw [List.getElem?_append_left hk] at e
          exact fx k t' e
        · rw [List.getElem?_append_right (by omega)] at e
          cases hz : k - xs.length with
          | zero =>
            rw [hz] at e
            cases e
            exact ⟨none_of' s1 ht, tB⟩
          | succ r =>
            rw [hz] at e
            cases e
    · obtain ⟨xs, s1, eB, px, hxn, fx⟩ := hP
      have hrl : (readsL ow pc ws.length i).length = ws.length := by
        unfold readsL
        rw [List.length_map, List.length_range]
      rw [List.take_of_length_le (by rw [hrl]; exact Nat.le_refl _)] at px
      exact q B H1 xs hB eB px (fun k t e => (fx k t e).1) s1
/-! ### what let_go tells, where it is refused -/
def spToldN (K : PySem.W.Frag) (C CL : Addr) : Sp := fun vs H Q _ => ∃ (N : Addr → Prop) (o : Addr) (n : Nat) (ow pc ks : List Nat) (st : Int) (fs : List (Str × V)) (v : V) (d : PyData), vs = [.ref o, v] ∧ RowB N H o C CL n ow pc ks st fs ∧ (∀ H', Same H H' → D1 K H' v d) ∧ NoK ow ks d ∧ ∀ (l : Addr) (H' : Hp), H l = none → H' l = some (.lst [.str "make", v]) → Same H H' → Q (.ref l) H'
def spToldA (C CL : Addr) : Sp := fun vs H Q _ => ∃ (N : Addr → Prop) (o : Addr) (n : Nat) (ow pc : List Nat) (st : Int) (fs : List (Str × V)) (i : Nat), vs = [.ref o, num i] ∧ RowB N H o C CL n ow pc [i] st fs ∧ i ≤ ow.length ∧ ∀ (l : Addr) (H' : Hp), H l = none → H' l = some (.lst [.str "alone", num i]) → Same H H' → Q (.ref l) H'
theorem ok_toldN (T : Txt K mg) (R : RfT P K mg CA fA CN fN CP fP CS fS CE) (c_caught : Gc.CalE P w K mg base 1 "_law_caught" (spCt CA CN CP CS)) (x_go : MetX P w K mg base 8 C "let_go" (spNk K CN C CL)) (D : DefAt K mg "_law_told" s__law_told ["_law_boxed", "_law_make"]) : CalG P w K mg base 9 "_law_told" (spToldN K C CL) := by
  refine D.cal sc__law_told (fun vs H Q E h => ?_) (fun f cdv A outer s H vs Q E hG hr h => ?_)
  · obtain ⟨N, o, n, ow, pc, ks, st, fs, v, d, rfl, _⟩ := h
    rfl
  · obtain ⟨N, o, n, ow, pc, ks, st, fs, v, d, rfl, r, hd, bad, q⟩ := h
    refine ⟨_, (pss_cons (ps_set (i := 2) sc__law_told.nd rfl (Or.inl rfl) (pe_lst (pa_cons pe_str pa_nil)))
      (pss_cons (ps_try_as (i := 3) (tb := fun W => tDrop (tMethX C "let_go" (spNk K CN C CL) (WE W) (tVar 0) (tCons (tVar 1) tNil))) (ts := fun a cls d => tAsg (Gc.tCallE (spCt CA CN CP CS) a cls d (tCons (tVar 3) tNil)) (gName 2)) (Wout := fun _ _ _ _ => False) rfl rfl sc__law_told.nd rfl rfl ⟨rfl, by decide, Or.inl R.g_MakesError⟩ takes0 (fun W pn xe tk _ => pss_one (ps_expr (by exact (pe_mtX x_go hr (by decide) tk (pv 0) (by exact (pa_cons (pv 1) pa_nil)))))) (fun a oe cls d pn hz hf => pss_one (ps_set (i := 2) sc__law_told.nd rfl (Or.inl rfl) (Gc.pe_callE c_caught List.mem_cons_self hz hf (roomM hr (by decide)) (by rfl) (pa_cons (pv 3) pa_nil)))))
      (pss_one (ps_ret (pv 2))))), ?_⟩
    refine ⟨(by show 1 ≤ sizeLine; decide), fun l0 hl0 => ?_⟩
    have s1 := same_new (o := .lst [V.str "told"]) hl0
    generalize upd H l0 (.lst [V.str "told"]) = H1 at *
    have r1 := r.same s1
    obtain ⟨dx, e1, nl⟩ := r1.ins
    refine ⟨_, rfl, o, dx, fs, rfl, e1, nl _ (by decide), _, rfl, N, o, n, ow, pc, ks, st, fs, v, d, rfl, r1, hd _ s1, bad, fun a ha => ?_⟩
    refine ⟨true, R.mN, fun _ a' ha' => ?_, fun z => nomatch z⟩
    have sx : Same H1 (upd H1 a (.xd [("found", v)])) := same_new ha
    refine ⟨_, rfl, a, CN, _, _, rfl, .inr (.inl ⟨v, rfl, rfl, rfl⟩), rfl, rfl, upd_same, fun l H' hl el s2 => ?_⟩
    exact ⟨_, rfl, q l H' (none_of' s1 (none_of' sx hl)) el (s1.trans (sx.trans s2))⟩
theorem ok_toldA (T : Txt K mg) (R : RfT P K mg CA fA CN fN CP fP CS fS CE) (c_caught : Gc.CalE P w K mg base 1 "_law_caught" (spCt CA CN CP CS)) (x_go : MetX P w K mg base 8 C "let_go" (spAlone CA C CL)) (D : DefAt K mg "_law_told" s__law_told ["_law_boxed", "_law_make"]) : CalG P w K mg base 9 "_law_told" (spToldA C CL) := by
  refine D.cal sc__law_told (fun vs H Q E h => ?_) (fun f cdv A outer s H vs Q E hG hr h => ?_)
  · obtain ⟨N, o, n, ow, pc, st, fs, i, rfl, _⟩ := h
    rfl
  · obtain ⟨N, o, n, ow, pc, st, fs, i, rfl, r, hi, q⟩ := h
    refine ⟨_, (pss_cons (ps_set (i := 2) sc__law_told.nd rfl (Or.inl rfl) (pe_lst (pa_cons pe_str pa_nil)))
      (pss_cons (ps_try_as (i := 3) (tb := fun W => tDrop (tMethX C "let_go" (spAlone CA C CL) (WE W) (tVar 0) (tCons (tVar 1) tNil))) (ts := fun a cls d => tAsg (Gc.tCallE (spCt CA CN CP CS) a cls d (tCons (tVar 3) tNil)) (gName 2)) (Wout := fun _ _ _ _ => False) rfl rfl sc__law_told.nd rfl rfl ⟨rfl, by decide, Or.inl R.g_MakesError⟩ takes0 (fun W pn xe tk _ => pss_one (ps_expr (by exact (pe_mtX x_go hr (by decide) tk (pv 0) (by exact (pa_cons (pv 1) pa_nil)))))) (fun a oe cls d pn hz hf => pss_one (ps_set (i := 2) sc__law_told.nd rfl (Or.inl rfl) (Gc.pe_callE c_caught List.mem_cons_self hz hf (roomM hr (by decide)) (by rfl) (pa_cons (pv 3) pa_nil)))))
      (pss_one (ps_ret (pv 2))))), ?_⟩
    refine ⟨(by show 1 ≤ sizeLine; decide), fun l0 hl0 => ?_⟩
    have s1 := same_new (o := .lst [V.str "told"]) hl0
    generalize upd H l0 (.lst [V.str "told"]) = H1 at *
    have r1 := r.same s1
    obtain ⟨dx, e1, nl⟩ := r1.ins
    refine ⟨_, rfl, o, dx, fs, rfl, e1, nl _ (by decide), _, rfl, N, o, n, ow, pc, st, fs, i, rfl, r1, hi, fun a ha => ?_⟩
    refine ⟨true, R.mA, fun _ a' ha' => ?_, fun z => nomatch z⟩
    have sx : Same H1 (upd H1 a (.xd [("found", num i)])) := same_new ha
    refine ⟨_, rfl, a, CA, _, _, rfl, .inl ⟨num i, rfl, rfl, rfl⟩, rfl, rfl, upd_same, fun l H' hl el s2 => ?_⟩
    exact ⟨_, rfl, q l H' (none_of' s1 (none_of' sx hl)) el (s1.trans (sx.trans s2))⟩
end
end K46
namespace K46
open PySem PySem.Spec PyProof.Rows L2 Gd Gs Gx Ge
open C8 (clsBody Met pe_mt pe_mt0)
section
variable {P : Program} {w : World} {K : PySem.W.Frag} {mg : Str → Option Value} {base : Heap} {C CL CA fA CN fN CP fP CS fS CE : Addr}
def Ask0K (K : PySem.W.Frag) (H : Hp) (CX : Addr) (n : Nat) (ow ks : List Nat) (way : Nat) (things : List V) (C : Addr) (fs : List (Str × V)) (vals : List V) : Prop := ∃ (v u u2 : V) (d : PyData), way = 0 ∧ things = [v, u, u2] ∧ (∀ H', Same H H' → D1 K H' v d) ∧ NoK ow ks d ∧ CX = C ∧ fs = [(("found" : Str), v)] ∧ vals = [.str "make", v]
def Ask0P (K : PySem.W.Frag) (H : Hp) (CX : Addr) (n : Nat) (ow ks : List Nat) (way : Nat) (things : List V) (C : Addr) (fs : List (Str × V)) (vals : List V) : Prop := ∃ (i : Nat) (v : V) (d : PyData), way = 0 ∧ things = [num i, v] ∧ i ≤ ow.length ∧ i ∈ ks ∧ (∀ H', Same H H' → D1 K H' v d) ∧ wholeD d 0 ((n : Nat) - 1 : Int) = false ∧ CX = C ∧ fs = [(("found" : Str), v)] ∧ vals = [.str "place", v]
def Ask1K (K : PySem.W.Frag) (H : Hp) (CX : Addr) (n : Nat) (ow ks : List Nat) (way : Nat) (things : List V) (C : Addr) (fs : List (Str × V)) (vals : List V) : Prop := ∃ (v u u2 : V) (d : PyData), way = 1 ∧ things = [v, u, u2] ∧ (∀ H', Same H H' → D1 K H' v d) ∧ NoK ow ks d ∧ CX = C ∧ fs = [(("found" : Str), v)] ∧ vals = [.str "make", v]
def Ask2K (K : PySem.W.Frag) (H : Hp) (CX : Addr) (n : Nat) (ow ks : List Nat) (way : Nat) (things : List V) (C : Addr) (fs : List (Str × V)) (vals : List V) : Prop := ∃ (v u u2 : V) (d : PyData), way = 2 ∧ things = [v, u, u2] ∧ (∀ H', Same H H' → D1 K H' v d) ∧ NoK ow ks d ∧ CX = C ∧ fs = [(("found" : Str), v)] ∧ vals = [.str "make", v]
def Ask2S (K : PySem.W.Frag) (H : Hp) (CX : Addr) (n : Nat) (ow ks : List Nat) (way : Nat) (things : List V) (C : Addr) (fs : List (Str × V)) (vals : List V) : Prop := ∃ (i : Nat) (v v2 : V) (d d2 : PyData), way = 2 ∧ things = [num i, v, v2] ∧ i ≤ ow.length ∧ i ∈ ks ∧ (∀ H', Same H H' → D1 K H' v d) ∧ (∀ H', Same H H' → D1 K H' v2 d2) ∧ NoS n d d2 ∧ CX = C ∧ fs = [(("low" : Str), v), (("high" : Str), v2)] ∧ vals = [.str "stretch", v, v2]
def Ask3K (K : PySem.W.Frag) (H : Hp) (CX : Addr) (n : Nat) (ow ks : List Nat) (way : Nat) (things : List V) (C : Addr) (fs : List (Str × V)) (vals : List V) : Prop := ∃ (v u u2 : V) (d : PyData), way = 3 ∧ things = [v, u, u2] ∧ (∀ H', Same H H' → D1 K H' v d) ∧ NoK ow ks d ∧ CX = C ∧ fs = [(("found" : Str), v)] ∧ vals = [.str "make", v]
def Ask4K (K : PySem.W.Frag) (H : Hp) (CX : Addr) (n : Nat) (ow ks : List Nat) (way : Nat) (things : List V) (C : Addr) (fs : List (Str × V)) (vals : List V) : Prop := ∃ (v u u2 : V) (d : PyData), way = 4 ∧ things = [v, u, u2] ∧ (∀ H', Same H H' → D1 K H' v d) ∧ wholeD d 0 (ow.length : Nat) = false ∧ CX = C ∧ fs = [(("found" : Str), v)] ∧ vals = [.str "make", v]
def Ask4P (K : PySem.W.Frag) (H : Hp) (CX : Addr) (n : Nat) (ow ks : List Nat) (way : Nat) (things : List V) (C : Addr) (fs : List (Str × V)) (vals : List V) : Prop := ∃ (i : Nat) (v : V) (d : PyData), way = 4 ∧ things = [num i, v] ∧ i ≤ ow.length ∧ (∀ H', Same H H' → D1 K H' v d) ∧ wholeD d 0 ((n : Nat) - 1 : Int) = false ∧ CX = C ∧ fs = [(("found" : Str), v)] ∧ vals = [.str "place", v]
def Ask5K (K : PySem.W.Frag) (H : Hp) (CX : Addr) (n : Nat) (ow ks : List Nat) (way : Nat) (things : List V) (C : Addr) (fs : List (Str × V)) (vals : List V) : Prop := ∃ (v u u2 : V) (d : PyData), way = 5 ∧ things = [v, u, u2] ∧ (∀ H', Same H H' → D1 K H' v d) ∧ wholeD d 0 (ow.length : Nat) = false ∧ CX = C ∧ fs = [(("found" : Str), v)] ∧ vals = [.str "make", v]
def AskB (K : PySem.W.Frag) (H : Hp) (CN CP CS : Addr) (n : Nat) (ow ks : List Nat) (way : Nat) (things : List V) (C : Addr) (fs : List (Str × V)) (vals : List V) : Prop :=
  Ask0K K H CN n ow ks way things C fs vals ∨ Ask0P K H CP n ow ks way things C fs vals ∨ Ask1K K H CN n ow ks way things C fs vals ∨ Ask2K K H CN n ow ks way things C fs vals ∨ Ask2S K H CS n ow ks way things C fs vals ∨ Ask3K K H CN n ow ks way things C fs vals ∨ Ask4K K H CN n ow ks way things C fs vals ∨ Ask4P K H CP n ow ks way things C fs vals ∨ Ask5K K H CN n ow ks way things C fs vals
def spAsk (K : PySem.W.Frag) (CN CP CS C CL : Addr) : Sp := fun vs H Q E => ∃ (N : Addr → Prop) (o t : Addr) (n : Nat) (ow pc ks : List Nat) (st : Int) (fs : List (Str × V)) (way : Nat) (things : List V) (CX : Addr) (xf : List (Str × V)) (vals : List V), vs = [.ref o, num way, .ref t] ∧ RowB N H o C CL n ow pc ks st fs ∧ H t = some (.lst things) ∧ AskB K H CN CP CS n ow ks way things CX xf vals ∧ ∀ a, H a = none → E (.ref CX) (some a) (upd H a (.xd xf))
theorem ok_ask (T : Txt K mg) (x_atK : MetX P w K mg base 7 C "at" (spAtK K CN C CL)) (x_atP : MetX P w K mg base 7 C "at" (spAtP K CP C CL)) (x_rowK : MetX P w K mg base 7 C "row" (spNk K CN C CL)) (x_stK : MetX P w K mg base 7 C "stretch" (spStK K CN C CL)) (x_stS : MetX P w K mg base 7 C "stretch" (spStS K CS C CL)) (x_goK : MetX P w K mg base 8 C "let_go" (spNk K CN C CL)) (x_wrK : MetX P w K mg base 5 C "writer" (spWrK K CN C CL)) (x_wrP : MetX P w K mg base 5 C "writer" (spWrP K CP C CL)) (x_poK : MetX P w K mg base 3 C "place_of" (spNt K CN C CL)) (D : DefAt K mg "_law_ask" s__law_ask ["_law_rows", "_law_way", "_law_things"]) : CalX P w K mg base 9 "_law_ask" (spAsk K CN CP CS C CL) := by
  refine D.calX sc__law_ask (fun vs H Q E h => ?_) (fun f cdv A outer s H vs Q E hG hr h => ?_)
  · obtain ⟨N, o, t, n, ow, pc, ks, st, fs, way, things, CX, xf, vals, rfl, _⟩ := h
    rfl
  · obtain ⟨N, o, t, n, ow, pc, ks, st, fs, way, things, CX, xf, vals, rfl, r, et, ab, q⟩ := h
    obtain ⟨dx, e1, nl⟩ := r.ins
    have s0 : Same H H := fun _ _ z => z
    rcases ab with h | h | h | h | h | h | h | h | h
    · obtain ⟨v, u, u2, d, rfl, rfl, hd, bad, rfl, rfl, rfl⟩ := h
      refine ⟨_, (pss_one (ps_if (pt_cmpR op_eq (pv 1) pe_int (nomark _)) (pss_one (ps_expr (pe_mtX x_atK hr (by decide) (takes_of rfl rfl rfl rfl) (pv 0) (pa_cons (pe_ix ix_list (pv 2) pe_int (fun _ _ => rfl)) (pa_cons (pe_ix ix_list (pv 2) pe_int (fun _ _ => rfl)) pa_nil))))) (pss_one (ps_if (pt_cmpR op_eq (pv 1) pe_int (nomark _)) (pss_one ps_never) (pss_one (ps_if (pt_cmpR op_eq (pv 1) pe_int (nomark _)) (pss_one ps_never) (pss_one (ps_if (pt_cmpR op_eq (pv 1) pe_int (nomark _)) (pss_one ps_never) (pss_one (ps_if (pt_cmpR op_eq (pv 1) pe_int (nomark _)) (pss_one ps_never) (pss_one ps_never))))))))))), ?_⟩
      refine ⟨_, rfl, rfl, _, rfl, ?_⟩
      rw [decide_eq_true (show num 0 = V.int 0 from rfl)]
      refine iteT ?_
      exact ⟨_, rfl, o, dx, fs, rfl, e1, nl _ (by decide), _, rfl, t, _, _, v, rfl, rfl, SqL.of et, rfl, _, rfl, t, _, _, u, rfl, rfl, SqL.of et, rfl, N, o, n, ow, pc, ks, st, fs, v, u, d, rfl, r, hd _ s0, bad, q⟩
    · obtain ⟨i, v, d, rfl, rfl, hi, hk, hd, bad, rfl, rfl, rfl⟩ := h
      refine ⟨_, (pss_one (ps_if (pt_cmpR op_eq (pv 1) pe_int (nomark _)) (pss_one (ps_expr (pe_mtX x_atP hr (by decide) (takes_of rfl rfl rfl rfl) (pv 0) (pa_cons (pe_ix ix_list (pv 2) pe_int (fun _ _ => rfl)) (pa_cons (pe_ix ix_list (pv 2) pe_int (fun _ _ => rfl)) pa_nil))))) (pss_one (ps_if (pt_cmpR op_eq (pv 1) pe_int (nomark _)) (pss_one ps_never) (pss_one (ps_if (pt_cmpR op_eq (pv 1) pe_int (nomark _)) (pss_one ps_never) (pss_one (ps_if (pt_cmpR op_eq (pv 1) pe_int (nomark _)) (pss_one ps_never) (pss_one (ps_if (pt_cmpR op_eq (pv 1) pe_int (nomark _)) (pss_one ps_never) (pss_one ps_never))))))))))), ?_⟩
      refine ⟨_, rfl, rfl, _, rfl, ?_⟩
      rw [decide_eq_true (show num 0 = V.int 0 from rfl)]
      refine iteT ?_
      exact ⟨_, rfl, o, dx, fs, rfl, e1, nl _ (by decide), _, rfl, t, _, _, num i, rfl, rfl, SqL.of et, rfl, _, rfl, t, _, _, v, rfl, rfl, SqL.of et, rfl, N, o, n, ow, pc, ks, st, fs, i, v, d, rfl, r, hi, hk, hd _ s0, bad, q⟩
    · obtain ⟨v, u, u2, d, rfl, rfl, hd, bad, rfl, rfl, rfl⟩ := h
      refine ⟨_, (pss_one (ps_if (pt_cmpR op_eq (pv 1) pe_int (nomark _)) (pss_one ps_never) (pss_one (ps_if (pt_cmpR op_eq (pv 1) pe_int (nomark _)) (pss_one (ps_expr (pe_mtX x_rowK hr (by decide) (takes_of rfl rfl rfl rfl) (pv 0) (pa_cons (pe_ix ix_list (pv 2) pe_int (fun _ _ => rfl)) pa_nil)))) (pss_one (ps_if (pt_cmpR op_eq (pv 1) pe_int (nomark _)) (pss_one ps_never) (pss_one (ps_if (pt_cmpR op_eq (pv 1) pe_int (nomark _)) (pss_one ps_never) (pss_one (ps_if (pt_cmpR op_eq (pv 1) pe_int (nomark _)) (pss_one ps_never) (pss_one ps_never))))))))))), ?_⟩
      refine ⟨_, rfl, rfl, _, rfl, ?_⟩
      rw [decide_eq_false (show ¬ num 1 = V.int 0 from fun z => by cases z)]
      refine iteF ?_
      refine ⟨_, rfl, rfl, _, rfl, ?_⟩
      rw [decide_eq_true (show num 1 = V.int 1 from rfl)]
      refine iteT ?_
      exact ⟨_, rfl, o, dx, fs, rfl, e1, nl _ (by decide), _, rfl, t, _, _, v, rfl, rfl, SqL.of et, rfl, N, o, n, ow, pc, ks, st, fs, v, d, rfl, r, hd _ s0, bad, q⟩
    · obtain ⟨v, u, u2, d, rfl, rfl, hd, bad, rfl, rfl, rfl⟩ := h
      refine ⟨_, (pss_one (ps_if (pt_cmpR op_eq (pv 1) pe_int (nomark _)) (pss_one ps_never) (pss_one (ps_if (pt_cmpR op_eq (pv 1) pe_int (nomark _)) (pss_one ps_never) (pss_one (ps_if (pt_cmpR op_eq (pv 1) pe_int (nomark _)) (pss_one (ps_expr (pe_mtX x_stK hr (by decide) (takes_of rfl rfl rfl rfl) (pv 0) (pa_cons (pe_ix ix_list (pv 2) pe_int (fun _ _ => rfl)) (pa_cons (pe_ix ix_list (pv 2) pe_int (fun _ _ => rfl)) (pa_cons (pe_ix ix_list (pv 2) pe_int (fun _ _ => rfl)) pa_nil)))))) (pss_one (ps_if (pt_cmpR op_eq (pv 1) pe_int (nomark _)) (pss_one ps_never) (pss_one (ps_if (pt_cmpR op_eq (pv 1) pe_int (nomark _)) (pss_one ps_never) (pss_one ps_never))))))))))), ?_⟩
      refine ⟨_, rfl, rfl, _, rfl, ?_⟩
      rw [decide_eq_false (show ¬ num 2 = V.int 0 from fun z => by cases z)]
      refine iteF ?_
      refine ⟨_, rfl, rfl, _, rfl, ?_⟩
      rw [decide_eq_false (show ¬ num 2 = V.int 1 from fun z => by cases z)]
      refine iteF ?_
      refine ⟨_, rfl, rfl, _, rfl, ?_⟩
      rw [decide_eq_true (show num 2 = V.int 2 from rfl)]
      refine iteT ?_
      exact ⟨_, rfl, o, dx, fs, rfl, e1, nl _ (by decide), _, rfl, t, _, _, v, rfl, rfl, SqL.of et, rfl, _, rfl, t, _, _, u, rfl, rfl, SqL.of et, rfl, _, rfl, t, _, _, u2, rfl, rfl, SqL.of et, rfl, N, o, n, ow, pc, ks, st, fs, v, u, u2, d, rfl, r, hd _ s0, bad, q⟩
    · obtain ⟨i, v, v2, d, d2, rfl, rfl, hi, hk, hd, hd2, bad, rfl, rfl, rfl⟩ := h
      refine ⟨_, (pss_one (ps_if (pt_cmpR op_eq (pv 1) pe_int (nomark _)) (pss_one ps_never) (pss_one (ps_if (pt_cmpR op_eq (pv 1) pe_int (nomark _)) (pss_one ps_never) (pss_one (ps_if (pt_cmpR op_eq (pv 1) pe_int (nomark _)) (pss_one (ps_expr (pe_mtX x_stS hr (by decide) (takes_of rfl rfl rfl rfl) (pv 0) (pa_cons (pe_ix ix_list (pv 2) pe_int (fun _ _ => rfl)) (pa_cons (pe_ix ix_list (pv 2) pe_int (fun _ _ => rfl)) (pa_cons (pe_ix ix_list (pv 2) pe_int (fun _ _ => rfl)) pa_nil)))))) (pss_one (ps_if (pt_cmpR op_eq (pv 1) pe_int (nomark _)) (pss_one ps_never) (pss_one (ps_if (pt_cmpR op_eq (pv 1) pe_int (nomark _)) (pss_one ps_never) (pss_one ps_never))))))))))), ?_⟩
      refine ⟨_, rfl, rfl, _, rfl, ?_⟩
      rw [decide_eq_false (show ¬ num 2 = V.int 0 from fun z => by cases z)]
      refine iteF ?_
      refine ⟨_, rfl, rfl, _, rfl, ?_⟩
      rw [decide_eq_false (show ¬ num 2 = V.int 1 from fun z => by cases z)]
      refine iteF ?_
      refine ⟨_, rfl, rfl, _, rfl, ?_⟩
      rw [decide_eq_true (show num 2 = V.int 2 from rfl)]
      refine iteT ?_
      exact ⟨_, rfl, o, dx, fs, rfl, e1, nl _ (by decide), _, rfl, t, _, _, num i, rfl, rfl, SqL.of et, rfl, _, rfl, t, _, _, v, rfl, rfl, SqL.of et, rfl, _, rfl, t, _, _, v2, rfl, rfl, SqL.of et, rfl, N, o, n, ow, pc, ks, st, fs, i, v, v2, d, d2, rfl, r, hi, hk, hd _ s0, hd2 _ s0, bad, q⟩
    · obtain ⟨v, u, u2, d, rfl, rfl, hd, bad, rfl, rfl, rfl⟩ := h
      refine ⟨_, (pss_one (ps_if (pt_cmpR op_eq (pv 1) pe_int (nomark _)) (pss_one ps_never) (pss_one (ps_if (pt_cmpR op_eq (pv 1) pe_int (nomark _)) (pss_one ps_never) (pss_one (ps_if (pt_cmpR op_eq (pv 1) pe_int (nomark _)) (pss_one ps_never) (pss_one (ps_if (pt_cmpR op_eq (pv 1) pe_int (nomark _)) (pss_one (ps_expr (pe_mtX x_goK hr (by decide) (takes_of rfl rfl rfl rfl) (pv 0) (pa_cons (pe_ix ix_list (pv 2) pe_int (fun _ _ => rfl)) pa_nil)))) (pss_one (ps_if (pt_cmpR op_eq (pv 1) pe_int (nomark _)) (pss_one ps_never) (pss_one ps_never))))))))))), ?_⟩
      refine ⟨_, rfl, rfl, _, rfl, ?_⟩
      rw [decide_eq_false (show ¬ num 3 = V.int 0 from fun z => by cases z)]
      refine iteF ?_
      refine ⟨_, rfl, rfl, _, rfl, ?_⟩
      rw [decide_eq_false (show ¬ num 3 = V.int 1 from fun z => by cases z)]
      refine iteF ?_
      refine ⟨_, rfl, rfl, _, rfl, ?_⟩
      rw [decide_eq_false (show ¬ num 3 = V.int 2 from fun z => by cases z)]
      refine iteF ?_
      refine ⟨_, rfl, rfl, _, rfl, ?_⟩
      rw [decide_eq_true (show num 3 = V.int 3 from rfl)]
      refine iteT ?_
      exact ⟨_, rfl, o, dx, fs, rfl, e1, nl _ (by decide), _, rfl, t, _, _, v, rfl, rfl, SqL.of et, rfl, N, o, n, ow, pc, ks, st, fs, v, d, rfl, r, hd _ s0, bad, q⟩
    · obtain ⟨v, u, u2, d, rfl, rfl, hd, bad, rfl, rfl, rfl⟩ := h
      refine ⟨_, (pss_one (ps_if (pt_cmpR op_eq (pv 1) pe_int (nomark _)) (pss_one ps_never) (pss_one (ps_if (pt_cmpR op_eq (pv 1) pe_int (nomark _)) (pss_one ps_never) (pss_one (ps_if (pt_cmpR op_eq (pv 1) pe_int (nomark _)) (pss_one ps_never) (pss_one (ps_if (pt_cmpR op_eq (pv 1) pe_int (nomark _)) (pss_one ps_never) (pss_one (ps_if (pt_cmpR op_eq (pv 1) pe_int (nomark _)) (pss_one (ps_expr (pe_mtX x_wrK hr (by decide) (takes_of rfl rfl rfl rfl) (pv 0) (pa_cons (pe_ix ix_list (pv 2) pe_int (fun _ _ => rfl)) (pa_cons (pe_ix ix_list (pv 2) pe_int (fun _ _ => rfl)) pa_nil))))) (pss_one ps_never))))))))))), ?_⟩
      refine ⟨_, rfl, rfl, _, rfl, ?_⟩
      rw [decide_eq_false (show ¬ num 4 = V.int 0 from fun z => by cases z)]
      refine iteF ?_
      refine ⟨_, rfl, rfl, _, rfl, ?_⟩
      rw [decide_eq_false (show ¬ num 4 = V.int 1 from fun z => by cases z)]
      refine iteF ?_
      refine ⟨_, rfl, rfl, _, rfl, ?_⟩
      rw [decide_eq_false (show ¬ num 4 = V.int 2 from fun z => by cases z)]
      refine iteF ?_
      refine ⟨_, rfl, rfl, _, rfl, ?_⟩
      rw [decide_eq_false (show ¬ num 4 = V.int 3 from fun z => by cases z)]
      refine iteF ?_
      refine ⟨_, rfl, rfl, _, rfl, ?_⟩
      rw [decide_eq_true (show num 4 = V.int 4 from rfl)]
      refine iteT ?_
      exact ⟨_, rfl, o, dx, fs, rfl, e1, nl _ (by decide), _, rfl, t, _, _, v, rfl, rfl, SqL.of et, rfl, _, rfl, t, _, _, u, rfl, rfl, SqL.of et, rfl, N, o, n, ow, pc, ks, st, fs, v, u, d, rfl, r, hd _ s0, bad, q⟩
    · obtain ⟨i, v, d, rfl, rfl, hi, hd, bad, rfl, rfl, rfl⟩ := h
      refine ⟨_, (pss_one (ps_if (pt_cmpR op_eq (pv 1) pe_int (nomark _)) (pss_one ps_never) (pss_one (ps_if (pt_cmpR op_eq (pv 1) pe_int (nomark _)) (pss_one ps_never) (pss_one (ps_if (pt_cmpR op_eq (pv 1) pe_int (nomark _)) (pss_one ps_never) (pss_one (ps_if (pt_cmpR op_eq (pv 1) pe_int (nomark _)) (pss_one ps_never) (pss_one (ps_if (pt_cmpR op_eq (pv 1) pe_int (nomark _)) (pss_one (ps_expr (pe_mtX x_wrP hr (by decide) (takes_of rfl rfl rfl rfl) (pv 0) (pa_cons (pe_ix ix_list (pv 2) pe_int (fun _ _ => rfl)) (pa_cons (pe_ix ix_list (pv 2) pe_int (fun _ _ => rfl)) pa_nil))))) (pss_one ps_never))))))))))), ?_⟩
      refine ⟨_, rfl, rfl, _, rfl, ?_⟩
      rw [decide_eq_false (show ¬ num 4 = V.int 0 from fun z => by cases z)]
      refine iteF ?_
      refine ⟨_, rfl, rfl, _, rfl, ?_⟩
      rw [decide_eq_false (show ¬ num 4 = V.int 1 from fun z => by cases z)]
      refine iteF ?_
      refine ⟨_, rfl, rfl, _, rfl, ?_⟩
      rw [decide_eq_false (show ¬ num 4 = V.int 2 from fun z => by cases z)]
      refine iteF ?_
      refine ⟨_, rfl, rfl, _, rfl, ?_⟩
      rw [decide_eq_false (show ¬ num 4 = V.int 3 from fun z => by cases z)]
      refine iteF ?_
      refine ⟨_, rfl, rfl, _, rfl, ?_⟩
      rw [decide_eq_true (show num 4 = V.int 4 from rfl)]
      refine iteT ?_
      exact ⟨_, rfl, o, dx, fs, rfl, e1, nl _ (by decide), _, rfl, t, _, _, num i, rfl, rfl, SqL.of et, rfl, _, rfl, t, _, _, v, rfl, rfl, SqL.of et, rfl, N, o, n, ow, pc, ks, st, fs, i, v, d, rfl, r, hi, hd _ s0, bad, q⟩
    · obtain ⟨v, u, u2, d, rfl, rfl, hd, bad, rfl, rfl, rfl⟩ := h
      refine ⟨_, (pss_one (ps_if (pt_cmpR op_eq (pv 1) pe_int (nomark _)) (pss_one ps_never) (pss_one (ps_if (pt_cmpR op_eq (pv 1) pe_int (nomark _)) (pss_one ps_never) (pss_one (ps_if (pt_cmpR op_eq (pv 1) pe_int (nomark _)) (pss_one ps_never) (pss_one (ps_if (pt_cmpR op_eq (pv 1) pe_int (nomark _)) (pss_one ps_never) (pss_one (ps_if (pt_cmpR op_eq (pv 1) pe_int (nomark _)) (pss_one ps_never) (pss_one (ps_expr (pe_mtX x_poK hr (by decide) (takes_of rfl rfl rfl rfl) (pv 0) (pa_cons (pe_ix ix_list (pv 2) pe_int (fun _ _ => rfl)) pa_nil)))))))))))))), ?_⟩
      refine ⟨_, rfl, rfl, _, rfl, ?_⟩
      rw [decide_eq_false (show ¬ num 5 = V.int 0 from fun z => by cases z)]
      refine iteF ?_
      refine ⟨_, rfl, rfl, _, rfl, ?_⟩
      rw [decide_eq_false (show ¬ num 5 = V.int 1 from fun z => by cases z)]
      refine iteF ?_
      refine ⟨_, rfl, rfl, _, rfl, ?_⟩
      rw [decide_eq_false (show ¬ num 5 = V.int 2 from fun z => by cases z)]
      refine iteF ?_
      refine ⟨_, rfl, rfl, _, rfl, ?_⟩
      rw [decide_eq_false (show ¬ num 5 = V.int 3 from fun z => by cases z)]
      refine iteF ?_
      refine ⟨_, rfl, rfl, _, rfl, ?_⟩
      rw [decide_eq_false (show ¬ num 5 = V.int 4 from fun z => by cases z)]
      refine iteF ?_
      exact ⟨_, rfl, o, dx, fs, rfl, e1, nl _ (by decide), _, rfl, t, _, _, v, rfl, rfl, SqL.of et, rfl, N, o, n, ow, pc, ks, st, fs, v, d, rfl, r, hd _ s0, bad, q⟩
end
end K46
namespace K46
open PySem PySem.Spec PyProof.Rows L2 Gd Gs Gx Ge
open C8 (clsBody Met pe_mt pe_mt0)
section
variable {P : Program} {w : World} {K : PySem.W.Frag} {mg : Str → Option Value} {base : Heap} {C CL CA fA CN fN CP fP CS fS CE : Addr}
def lostL (ow ks : List Nat) : List Nat := (List.range (ow.length + 1)).filter fun k => decide (k ∉ ks)
/-- a thing, its data -/
structure Th (K : PySem.W.Frag) (H : Hp) (v : V) (d : PyData) : Prop where
  dp : ∀ H', Same H H' → Dp K H' v d
  ok : Okd d 10000 2
def spBad (K : PySem.W.Frag) (CN CP CS C CL : Addr) : Sp := fun vs H Q _ => ∃ (N : Addr → Prop) (b o : Addr) (m : Int) (n : Nat) (ow pc ks : List Nat) (st : Int) (fs : List (Str × V)), vs = [.ref b, .ref o, num n] ∧ RowB N H o C CL n ow pc ks st fs ∧ BoxD H b m ∧ m ≤ 900000 ∧ ¬ N b ∧ ks ≠ [] ∧ ks.length ≤ 64 ∧ ow.length ≤ 63 ∧
  ∀ (t l1 l2 : Addr) (H' : Hp) (way : Nat) (things vals : List V) (ds : List PyData) (CX : Addr) (xf : List (Str × V)), H' t = some (.tup [num way, .ref l1, .ref l2]) → H' l1 = some (.lst things) → H' l2 = some (.lst vals) → AskB K H' CN CP CS n ow ks way things CX xf vals → (∀ H2, Same H' H2 → DpAll K H2 vals ds) → Okd (.list ds) 60000 4 → BoxD H' b (m + 20) → (∀ c u, c ≠ b → H c = some u → H' c = some u) → Q (.ref t) H'
theorem ok_bad (T : Txt K mg) (c__law_take : CalG P w K mg base 1 "_law_take" spTakeD) (m_many : Met P w K mg base 1 C "many" (spRMany C CL) []) (m_makes : Met P w K mg base 1 C "makes" (spMakes C CL) [])
    (D : DefAt K mg "_law_bad_ask" s__law_bad_ask ["_law_box_here", "_law_rows", "_law_size"]) : CalG P w K mg base 2 "_law_bad_ask" (spBad K CN CP CS C CL) := by
  refine D.cal sc__law_bad_ask (fun vs H Q E h => ?_) (fun f cdv A outer s H vs Q E hG hr h => ?_)
  · obtain ⟨N, b, o, m, n, ow, pc, ks, st, fs, rfl, _⟩ := h
    rfl
  · obtain ⟨N, b, o, m, n, ow, pc, ks, st, fs, rfl, r, hB, hm, nN, kne, h64, few, q⟩ := h
    have sz := r.sz
    have ev : (fun i : Nat => V.int (0 + ((i : Nat) : Int))) = num := by
      funext i
      show V.int _ = V.int _
      rw [Int.zero_add]
    refine ⟨_, (pss_cons (ps_set (i := 3) sc__law_bad_ask.nd rfl (Or.inl rfl) (pe_g c__law_take hG (hr.mono (by decide)) (by rfl) (pa_cons (pv 0) (pa_cons pe_int pa_nil))))
      (pss_cons (ps_set (i := 4) sc__law_bad_ask.nd rfl (Or.inr rfl) (pe_mt0 m_makes hr (by decide) (pv 1)))
      (pss_cons (ps_setLc (i := 5) (own := [("_law_one", 11)]) (g := gName 11) (tt := _) rfl sc__law_bad_ask.nd rfl rfl (sw_true rfl rfl rfl (by decide +kernel)) (pi_range1 rfl T.b_range (pa_cons (pe_mt0 m_many hr (by decide) (pv 1)) pa_nil)) (blkOk_by (own := [("_law_one", 11)]) (N := ["_law_box_here", "_law_rows", "_law_size", "_law_way", "_law_kept", "_law_lost", "_law_never", "_law_make", "_law_place", "_law_low", "_law_high", "_law_one"]) (sc := defScope s__law_bad_ask) (by decide +kernel)) (fun _ _ _ _ _ => pg_name (i := 11) sc__law_bad_ask.nd rfl (Or.inl rfl)) (fun _ _ _ _ _ => (pts_one (pt_cmpR (show OpR _ (compareOp .NotIn) (rIn K true) from op_notIn_seq) (pv 11) (pv 4) (by rfl)))) (fun _ _ _ _ _ => (pv 11)))
      (pss_cons (ps_set (i := 6) sc__law_bad_ask.nd rfl (Or.inl rfl) (pe_lst (pa_cons (pe_mt0 m_many hr (by decide) (pv 1)) (pa_cons (pe_un un_neg pe_int) (pa_cons pe_non (pa_cons pe_bl (pa_cons pe_str (pa_cons (pe_op op_pow pe_int pe_int) pa_nil))))))))
      (pss_cons (ps_set (i := 7) sc__law_bad_ask.nd rfl (Or.inl rfl) (pe_ix ix_list (pe_op op_cat (pv 6) (pe_op op_rep (pv 5) (pe_callTy call_int1 (by rfl) T.t_int boot_int_ (pa_cons (pe_cmpR op_lt (pv 3) pe_int (nomark _)) pa_nil)))) (pe_g c__law_take hG (hr.mono (by decide)) (by rfl) (pa_cons (pv 0) (pa_cons (pe_op op_add pe_int (pe_op op_mul (pe_callB call_len (by rfl) T.b_len boot_len_ (pa_cons (pv 5) pa_nil)) (pe_callTy call_int1 (by rfl) T.t_int boot_int_ (pa_cons (pe_cmpR op_lt (pv 3) pe_int (nomark _)) pa_nil)))) pa_nil))) (fun _ _ => rfl)))
      (pss_cons (ps_set (i := 8) sc__law_bad_ask.nd rfl (Or.inl rfl) (pe_ix ix_list (pe_lst (pa_cons (pv 2) (pa_cons (pe_un un_neg pe_int) (pa_cons pe_non (pa_cons pe_bl (pa_cons (pe_lst (pa_cons pe_int pa_nil)) pa_nil)))))) (pe_g c__law_take hG (hr.mono (by decide)) (by rfl) (pa_cons (pv 0) (pa_cons pe_int pa_nil))) (fun _ _ => rfl)))
      (pss_cons (ps_if (PW.pt (pw_or (pt_cmpR op_in_seq (pv 3) (pe_tup (pa_cons pe_int (pa_cons pe_int (pa_cons pe_int pa_nil)))) (by rfl)) (pw_or1 (pt_cmpR op_eq (pe_g c__law_take hG (hr.mono (by decide)) (by rfl) (pa_cons (pv 0) (pa_cons pe_int pa_nil))) pe_int (nomark _)))))
          (pss_one (ps_ret (pe_tup (pa_cons (pv 3) (pa_cons (pe_lst (pa_cons (pv 7) (pa_cons (pv 8) (pa_cons (pv 2) pa_nil)))) (pa_cons (pe_lst (pa_cons pe_str (pa_cons (pv 7) pa_nil))) pa_nil)))))) pss_nil)
      (pss_cons (ps_if (pt_cmpR op_eq (pv 3) pe_int (nomark _))
          (pss_cons (ps_asg (pe_ix ix_list (pe_lst (pa_cons (pe_tup (pa_cons pe_int (pa_cons pe_int pa_nil))) (pa_cons (pe_tup (pa_cons pe_int (pa_cons pe_int pa_nil))) (pa_cons (pe_tup (pa_cons pe_int (pa_cons (pe_op op_add (pv 2) pe_int) pa_nil))) (pa_cons (pe_tup (pa_cons (pv 8) (pa_cons (pv 2) pa_nil))) (pa_cons (pe_tup (pa_cons pe_int (pa_cons pe_non pa_nil))) (pa_cons (pe_tup (pa_cons pe_int (pa_cons pe_int pa_nil))) pa_nil))))))) (pe_g c__law_take hG (hr.mono (by decide)) (by rfl) (pa_cons (pv 0) (pa_cons pe_int pa_nil))) (fun _ _ => rfl)) (pg_tup (by rfl) (pgs_cons (pg_name (i := 9) sc__law_bad_ask.nd rfl (Or.inl rfl)) (pgs_cons (pg_name (i := 10) sc__law_bad_ask.nd rfl (Or.inl rfl)) pgs_nil))))
          (pss_one (ps_ret (pe_tup (pa_cons (pv 3) (pa_cons (pe_lst (pa_cons (pe_ix ix_list (pv 4) (pe_un un_neg pe_int) (fun _ _ => rfl)) (pa_cons (pv 9) (pa_cons (pv 10) pa_nil)))) (pa_cons (pe_lst (pa_cons pe_str (pa_cons (pv 9) (pa_cons (pv 10) pa_nil)))) pa_nil))))))) pss_nil)
      (pss_one (ps_ret (pe_tup (pa_cons (pv 3) (pa_cons (pe_lst (pa_cons (pe_ix ix_list (pv 4) (pe_un un_neg pe_int) (fun _ _ => rfl)) (pa_cons (pv 8) pa_nil))) (pa_cons (pe_lst (pa_cons pe_str (pa_cons (pv 8) pa_nil))) pa_nil)))))))))))))), ?_⟩
    refine ⟨_, rfl, b, 6, m, rfl, hB, by omega, by decide, by decide, fun wy H1 w0 w1 hB1 k1 => ?_⟩
    obtain ⟨way, rfl⟩ : ∃ way : Nat, wy = way := ⟨wy.toNat, by omega⟩
    have r1 := r.kp (H' := H1) fun c u hc z => (k1 c (fun e => nN (e ▸ hc))).trans z
    obtain ⟨dx, e1, nl⟩ := r1.ins
    refine ⟨_, rfl, o, dx, fs, rfl, e1, nl _ (by decide), N, o, n, ow, pc, ks, st, fs, rfl, r1, fun ka H2 hka eka s2 => ?_⟩
    have r2 := r1.same s2
    have hB2 := hB1.kp (H' := H2) fun u z => s2 _ _ z
    refine ⟨_, rfl, o, dx, fs, rfl, s2 _ _ e1, nl _ (by decide), N, o, n, ow, pc, ks, st, fs, rfl, r2, ?_⟩
    refine ⟨_, rfl, by omega, by omega, fun B hBn => ?_⟩
    rw [show (((ow.length + 1 : Nat) : Int)).toNat = ow.length + 1 from Int.toNat_natCast _]
    refine lc_it (walk_range (lo := 0) (n := ow.length + 1)) (fun k H' => Same H2 H' ∧ H' B = some (.lst (((List.range k).filter fun k => decide (k ∉ ks)).map num))) ⟨same_new hBn, upd_same⟩ (fun _ _ _ _ => trivial) (fun k v H3 H4 hk hP hY => ?_) (fun H3 hP => ?_)
    · obtain ⟨s3, eB⟩ := hP
      obtain ⟨rfl, rfl⟩ := hY
      rw [ev]
      refine ⟨rfl, ?_⟩
      refine ⟨_, rfl, _, rfl, ka, _, rfl, .inl (SqL.of (s3 _ _ eka)), rfl, flat_nums ks, ?_⟩
      have hlt : ((List.range k).filter fun k => decide (k ∉ ks)).length ≤ 64 := by
        refine Nat.le_trans (List.length_filter_le ..) ?_
        rw [List.length_range]
        omega
      rw [List.range_succ, List.filter_append]
      by_cases hks : k ∈ ks
      · rw [in_nums hks]
        refine ⟨_, rfl, iteF ⟨s3, ?_⟩⟩
        rw [eB]
        simp [hks]
      · rw [nin_nums hks]
        refine ⟨_, rfl, iteT ⟨_, rfl, _, eB, small1000 (by rw [List.length_map]; omega), fun c u z => ?_, ?_⟩⟩
        · rw [upd_ne (ne_of_none z hBn)]
          exact s3 _ _ z
        · rw [upd_same]
          simp [hks]
    obtain ⟨s3, eB⟩ := hP
    replace eB : H3 B = some (.lst ((lostL ow ks).map num)) := eB
    have r3 := r2.same s3
    have hB3 := hB2.kp (H' := H3) fun u z => s3 _ _ z
    have eka3 := s3 _ _ eka
    refine ⟨_, rfl, o, dx, fs, rfl, s3 _ _ (s2 _ _ e1), nl _ (by decide), N, o, n, ow, pc, ks, st, fs, rfl, r3, 1, rfl, ?_⟩
    refine ⟨_, _, rfl, rfl, ⟨by decide, by decide, by decide⟩, (by show 6 ≤ sizeLine; decide), fun nv hnv => ?_⟩
    generalize hg : upd H3 nv (HO.lst _) = H4
    have s4 : Same H3 H4 := hg ▸ same_new hnv
    have env : H4 nv = some (.lst [num (ow.length + 1), V.int (-1), .non, .bl true, .str "0", V.int (10 ^ (39 : Int).toNat)]) := by
      rw [← hg]
      exact upd_same
    clear hg
    have eB4 := s4 _ _ eB
    obtain ⟨lz, hlz⟩ : ∃ lz, lz = decide ((way : Int) < 4) := ⟨_, rfl⟩
    obtain ⟨L', hL'⟩ : ∃ L' : List V, L' = if way < 4 then (lostL ow ks).map num else [] := ⟨_, rfl⟩
    have hll : (lostL ow ks).length ≤ 64 := by
      refine Nat.le_trans (List.length_filter_le ..) ?_
      rw [List.length_range]
      omega
    have hrep : (List.replicate (if lz = true then (1 : Int) else 0).toNat ((lostL ow ks).map num)).flatten = L' := by
      rw [hL', hlz]
      by_cases h : way < 4
      · rw [decide_eq_true (show (way : Int) < 4 by omega), if_pos rfl, if_pos h]
        show (List.replicate 1 _).flatten = _
        simp
      · rw [decide_eq_false (show ¬ (way : Int) < 4 by omega), if_neg h]
        rfl
    have hml : ((((lostL ow ks).map num).length : Nat) : Int) * (if lz = true then (1 : Int) else 0) = (L'.length : Nat) := by
      rw [hL', hlz]
      by_cases h : way < 4
      · rw [decide_eq_true (show (way : Int) < 4 by omega), if_pos rfl, if_pos h]
        omega
      · rw [decide_eq_false (show ¬ (way : Int) < 4 by omega), if_neg h]
        show _ * (0 : Int) = _
        rw [Int.mul_zero]
        rfl
    have hLl : L'.length ≤ 64 := by
      rw [hL']
      split
      · rw [List.length_map]
        exact hll
      · exact Nat.zero_le _
    refine ⟨_, rfl, _, rfl, _, rfl, _, _, rfl, rfl, .inr ⟨lz, by rw [hlz], ?_⟩⟩
    refine ⟨B, _, _, rfl, rfl, eB4, by split <;> decide, by split <;> decide, ?_, fun rp hrp => ?_⟩
    · rw [List.length_map]
      refine Nat.le_trans (Nat.mul_le_mul hll (show (if lz = true then (1 : Int) else 0).toNat ≤ 1 by split <;> decide)) (by show 64 * 1 ≤ sizeLine; decide)
    rw [hrep]
    have s5 := same_new (o := .lst L') hrp
    have erp : (upd H4 rp (.lst L')) rp = some (.lst L') := upd_same
    generalize upd H4 rp (.lst L') = H5 at *
    refine ⟨nv, rp, _, _, rfl, rfl, s5 _ _ env, erp, ?_, fun cp hcp => ?_⟩
    · show 6 + L'.length ≤ sizeLine
      exact Nat.le_trans (show 6 + L'.length ≤ 70 by omega) (by decide)
    generalize hg : upd H5 cp (HO.lst _) = H6
    have s6 : Same H5 H6 := hg ▸ same_new hcp
    have ecp : H6 cp = some (.lst ([num (ow.length + 1), V.int (-1), .non, .bl true, .str "0", V.int (10 ^ (39 : Int).toNat)] ++ L')) := by
      rw [← hg]
      exact upd_same
    clear hg
    have s36 := s4.trans (s5.trans s6)
    have hB6 := hB3.kp (H' := H6) fun u z => s36 _ _ z
    refine ⟨_, rfl, _, rfl, .ref B, _, rfl, .inl ⟨_, SqL.of (s36 _ _ eB), rfl⟩, _, rfl, _, _, rfl, rfl, .inr ⟨lz, by rw [hlz], ?_⟩⟩
    refine ⟨_, _, rfl, rfl, ?_, _, _, rfl, rfl, ?_⟩
    · exact .inr (by split <;> exact ⟨by decide, by decide⟩)
    rw [hml]
    refine ⟨b, 6 + (L'.length : Nat), m + 1, rfl, hB6, by omega, by omega, by omega, fun g H7 g0 g1 hB7 k7 => ?_⟩
    have ecp7 : H7 cp = some _ := (k7 cp (hB6.kp (H' := H6) (fun u z => z) |>.some |> fun ⟨u, hu⟩ => fun e => by
      obtain ⟨_, _, _, kvs, hb, _⟩ := hB6
      rw [← e, ecp] at hb
      cases hb)).trans ecp
    have kl := r.kl
    obtain ⟨v, d, hat, hd, okd, bad, hno⟩ : ∃ (v : V) (d : PyData), atI ([num (ow.length + 1), V.int (-1), .non, .bl true, .str "0", V.int (10 ^ (39 : Int).toNat)] ++ L') g = some v ∧ (∀ H', Dp K H' v d) ∧ Okd d 10000 2 ∧ NoK ow ks d ∧ (¬ way < 4 → wholeD d 0 (ow.length : Nat) = false) := by
      have fin : ∀ (v : V) (d : PyData), atI ([num (ow.length + 1), V.int (-1), .non, .bl true, .str "0", V.int (10 ^ (39 : Int).toNat)] ++ L') g = some v → (∀ H', Dp K H' v d) → Okd d 10000 2 → wholeD d 0 (ow.length : Nat) = false → ∃ (v : V) (d : PyData), atI ([num (ow.length + 1), V.int (-1), .non, .bl true, .str "0", V.int (10 ^ (39 : Int).toNat)] ++ L') g = some v ∧ (∀ H', Dp K H' v d) ∧ Okd d 10000 2 ∧ NoK ow ks d ∧ (¬ way < 4 → wholeD d 0 (ow.length : Nat) = false) := fun v d a1 a2 a3 a4 => ⟨v, d, a1, a2, a3, .inl a4, fun _ => a4⟩
      by_cases h6 : g < 6
      · rcases (by omega : g = 0 ∨ g = 1 ∨ g = 2 ∨ g = 3 ∨ g = 4 ∨ g = 5) with rfl | rfl | rfl | rfl | rfl | rfl
        · refine fin _ (.int ((ow.length + 1 : Nat) : Int)) (atI_nat (j := 0) rfl) (fun _ => .int _) ((num2k (by omega)).up (by decide) (by decide)) ?_
          show (decide ((0 : Int) ≤ ((ow.length + 1 : Nat) : Int)) && decide (((ow.length + 1 : Nat) : Int) ≤ (ow.length : Nat))) = false
          rw [decide_eq_false (by omega : ¬ ((ow.length + 1 : Nat) : Int) ≤ (ow.length : Nat)), Bool.and_false]
        · exact fin _ (.int (-1)) (atI_nat (j := 1) rfl) (fun _ => .int _) ((okInt ⟨by decide, by decide⟩).up (by decide) (by decide)) rfl
        · exact fin _ .none (atI_nat (j := 2) rfl) (fun _ => .non) (okNone.up (by decide) (by decide)) rfl
        · exact fin _ (.bool true) (atI_nat (j := 3) rfl) (fun _ => .bl _) ((okBool _).up (by decide) (by decide)) rfl
        · exact fin _ (.str "0") (atI_nat (j := 4) rfl) (fun _ => .str _) ((okStr (m := 10) (by decide +kernel)).up (by decide) (by decide)) rfl
        · refine fin _ (.int (10 ^ (39 : Int).toNat)) (atI_nat (j := 5) rfl) (fun _ => .int _) ((okInt ⟨by decide, by decide⟩).up (by decide) (by decide)) ?_
          show (decide ((0 : Int) ≤ 10 ^ (39 : Int).toNat) && decide ((10 : Int) ^ (39 : Int).toNat ≤ (ow.length : Nat))) = false
          have h1000 : (1000 : Int) ≤ 10 ^ (39 : Int).toNat := by decide
          have h2 : decide ((10 : Int) ^ (39 : Int).toNat ≤ (ow.length : Nat)) = false := decide_eq_false (by omega)
          rw [h2, Bool.and_false]
      · obtain ⟨jj, rfl⟩ : ∃ jj : Nat, g = ((6 + jj : Nat) : Int) := ⟨(g - 6).toNat, by omega⟩
        have hw4 : way < 4 := by
          by_cases h : way < 4
          · exact h
          · rw [if_neg h] at hL'
            rw [hL'] at g1
            simp at g1
            omega
        rw [if_pos hw4] at hL'
        have hjl : jj < (lostL ow ks).length := by
          rw [hL', List.length_map] at g1
          omega
        obtain ⟨i, hi⟩ : ∃ i, (lostL ow ks)[jj]? = some i := ⟨_, List.getElem?_eq_getElem hjl⟩
        have him := List.mem_of_getElem? hi
        have hi2 := (List.mem_filter.mp him)
        have hi3 := List.mem_range.mp hi2.1
        have hi4 : i ∉ ks := of_decide_eq_true hi2.2
        refine ⟨num i, .int (i : Nat), ?_, fun _ => .int _, (num2k (by omega)).up (by decide) (by decide), .inr ⟨i, rfl, by omega, hi4⟩, fun h => absurd hw4 h⟩
        refine atI_nat ?_
        rw [List.getElem?_append_right (by show 6 ≤ 6 + jj; omega), hL', List.getElem?_map]
        show ((lostL ow ks)[6 + jj - 6]?).map num = _
        rw [show 6 + jj - 6 = jj by omega, hi]
        rfl
    refine ⟨cp, _, _, v, rfl, rfl, SqL.of ecp7, hat, ?_⟩
    -- a place
    refine ⟨_, rfl, 1, rfl, (by show 1 ≤ sizeLine; decide), fun z hz => ?_⟩
    have s8 := same_new (o := .lst [V.int 0]) hz
    have ez : (upd H7 z (.lst [V.int 0])) z = some (.lst [V.int 0]) := upd_same
    have hB8 := hB7.kp (H' := upd H7 z (.lst [V.int 0])) fun u e => s8 _ _ e
    have zb := hB7.ne hz
    generalize upd H7 z (.lst [V.int 0]) = H8 at *
    refine ⟨(by show 5 ≤ sizeLine; decide), fun pp hpp => ?_⟩
    generalize hg : upd H8 pp (HO.lst _) = H9
    have s9 : Same H8 H9 := hg ▸ same_new hpp
    have epp : H9 pp = some (.lst [num n, V.int (-1), .non, .bl false, .ref z]) := by
      rw [← hg]
      exact upd_same
    clear hg
    have hB9 := hB8.kp (H' := H9) fun u e => s9 _ _ e
    have ppb := hB8.ne hpp
    have ez9 := s9 _ _ ez
    refine ⟨_, rfl, b, 5, m + 1 + 1, rfl, hB9, by omega, by decide, by decide, fun gp H10 p0 p1 hB10 k10 => ?_⟩
    have ez10 : H10 z = some (.lst [V.int 0]) := (k10 z zb).trans ez9
    obtain ⟨u, du, hau, hdu, oku, badu⟩ : ∃ (u : V) (du : PyData), atI [num n, V.int (-1), .non, .bl false, .ref z] gp = some u ∧ (∀ H', H' z = some (.lst [V.int 0]) → Dp K H' u du) ∧ Okd du 10000 2 ∧ wholeD du 0 ((n : Nat) - 1 : Int) = false := by
      rcases (by omega : gp = 0 ∨ gp = 1 ∨ gp = 2 ∨ gp = 3 ∨ gp = 4) with rfl | rfl | rfl | rfl | rfl
      · refine ⟨_, .int (n : Nat), rfl, fun _ _ => .int _, (num2k (by omega)).up (by decide) (by decide), ?_⟩
        show (decide ((0 : Int) ≤ (n : Nat)) && decide (((n : Nat) : Int) ≤ (n : Nat) - 1)) = false
        rw [decide_eq_false (by omega : ¬ ((n : Nat) : Int) ≤ (n : Nat) - 1), Bool.and_false]
      · exact ⟨_, .int (-1), rfl, fun _ _ => .int _, (okInt ⟨by decide, by decide⟩).up (by decide) (by decide), rfl⟩
      · exact ⟨_, .none, rfl, fun _ _ => .non, okNone.up (by decide) (by decide), rfl⟩
      · exact ⟨_, .bool false, rfl, fun _ _ => .bl _, (okBool _).up (by decide) (by decide), rfl⟩
      · refine ⟨_, .list [.int 0], rfl, fun _ s => .lst (SqL.of s) (.cons (.int _) .nil), (okList (ds := [.int 0]) (m := 50) (e := 0) (n := 1) (fun d hd => ?_) (Nat.le_refl 1)).up (by decide) (by decide), rfl⟩
        rw [List.mem_singleton.mp hd]
        exact num2k (n := 0) (by decide)
    refine ⟨pp, _, _, u, rfl, rfl, SqL.of ((k10 pp ppb).trans epp), hau, ?_⟩
    have k09 : ∀ c u, c ≠ b → H c = some u → H10 c = some u := fun c u hc z => (k10 c hc).trans (s9 _ _ (s8 _ _ ((k7 c hc).trans (s36 _ _ (s3 _ _ (s2 _ _ ((k1 c hc).trans z)))))))
    have eka10 : H10 ka = some (.lst (ks.map num)) := by
      have kab : ka ≠ b := fun e => by
        obtain ⟨_, _, _, kvs, hb, _⟩ := hB2
        rw [← e, eka] at hb
        cases hb
      exact (k10 _ kab).trans (s9 _ _ (s8 _ _ ((k7 _ kab).trans (s36 _ _ eka3))))
    replace hB10 := hB10.up (show m + 1 + 1 + 1 ≤ m + 5 by omega)
    clear ez9 epp s9 s8 ez ppb hpp hz hB9 hB8 ecp7 k7 hB7 ecp hcp erp hrp hB6 s36 s6 s5 eB4 env s4 hnv eB hB3 s3 eka3 r3 hB2 r2 s2 hka eka k1 hB1 r1 e1 nl k10 hrep hml hBn
    clear H9 H8 H7 H6 H5 H4 H3 H2 H1
    have hw6 : way < 6 := by omega
    obtain ⟨il, ks', hks⟩ : ∃ il ks', ks = ks' ++ [il] := ⟨ks.getLast kne, ks.dropLast, (List.dropLast_concat_getLast _).symm⟩
    have hil : il ∈ ks := by
      rw [hks]
      simp
    have hla : atI (ks.map num) (-1) = some (num il) := by
      rw [hks, List.map_append]
      exact atI_last _ _
    have okv : ∀ (wd : Str) (d : PyData), Okd d 10000 2 → Okd (.str wd) 50 0 → Okd (.list [.str wd, d]) 60000 4 := fun wd d h1 h2 => (okList (ds := [.str wd, d]) (m := 10000) (e := 2) (n := 2) (fun x hx => by
      rcases List.mem_cons.mp hx with rfl | hx
      · exact h2.up (by decide) (by decide)
      · rw [List.mem_singleton.mp hx]
        exact h1) (Nat.le_refl 2)).up (by decide) (by decide)
    have okmk : Okd (.str "make") 50 0 := (okStr (m := 10) (by decide +kernel)).up (by decide) (by decide)
    have okpl : Okd (.str "place") 50 0 := (okStr (m := 10) (by decide +kernel)).up (by decide) (by decide)
    have okst : Okd (.str "stretch") 50 0 := (okStr (m := 20) (by decide +kernel)).up (by decide) (by decide)
    -- a way with the make alone
    refine' joinH (Pre := fun H' => (∀ c u, c ≠ b → H10 c = some u → H' c = some u) ∧ BoxD H' b (m + 8)) (fun one => ?main) ?one
    case main =>
      refine ⟨_, rfl, (by show 3 ≤ sizeLine; decide), fun tp htp => ?_⟩
      have s11 := same_new (o := .tup [V.int 1, V.int 3, V.int 5]) htp
      have etp : (upd H10 tp (.tup [V.int 1, V.int 3, V.int 5])) tp = some (.tup [V.int 1, V.int 3, V.int 5]) := upd_same
      have hB11 := hB10.kp (H' := upd H10 tp (.tup [V.int 1, V.int 3, V.int 5])) fun u e => s11 _ _ e
      generalize upd H10 tp (.tup [V.int 1, V.int 3, V.int 5]) = H11 at *
      refine ⟨tp, _, rfl, .inr (SqT.of etp), rfl, rfl, ?_⟩
      have h11 : (∀ c u, c ≠ b → H10 c = some u → H11 c = some u) := fun c u _ z => s11 _ _ z
      refine ⟨_, rfl, ?_⟩
      cases hin : inV (V.int (way : Nat)) [V.int 1, V.int 3, V.int 5] with
      | true => exact iteT (iteT (one H11 ⟨h11, hB11.up (by omega)⟩))
      | false =>
        refine iteF ?_
        refine ⟨_, rfl, b, 2, m + 5, rfl, hB11, by omega, by decide, by decide, fun g3 H12 _ _ hB12 k12 => ⟨rfl, _, rfl, ?_⟩⟩
        have h12 : (∀ c u, c ≠ b → H10 c = some u → H12 c = some u) := fun c u hc z => (k12 c hc).trans (h11 c u hc z)
        generalize decide (V.int g3 = V.int 0) = bg
        cases bg with
        | true => exact iteT (one H12 ⟨h12, hB12.up (by omega)⟩)
        | false =>
          refine iteF ?_
          have k012 : ∀ c u, c ≠ b → H c = some u → H12 c = some u := fun c u hc z => h12 c u hc (k09 c u hc z)
          have kab : ka ≠ b := fun e => by
            obtain ⟨_, _, _, kvs, hb, _⟩ := hB10
            rw [← e, eka10] at hb
            cases hb
          have eka12 := h12 _ _ kab eka10
          have ez12 : H12 z = some (.lst [V.int 0]) := h12 _ _ zb ez10
          have hdu12 : ∀ H', Same H12 H' → Dp K H' u du := fun H' s => hdu H' (s _ _ ez12)
          have weven : way = 0 ∨ way = 2 ∨ way = 4 := by
            rcases (by omega : way = 0 ∨ way = 1 ∨ way = 2 ∨ way = 3 ∨ way = 4 ∨ way = 5) with rfl | rfl | rfl | rfl | rfl | rfl
            · exact .inl rfl
            · cases hin
            · exact .inr (.inl rfl)
            · cases hin
            · exact .inr (.inr rfl)
            · cases hin
          clear hin h11 hB11 etp s11 htp
          refine ⟨_, rfl, rfl, _, rfl, ?_⟩
          by_cases hw2 : way = 2
          · rw [decide_eq_true (show V.int (way : Nat) = V.int 2 from by rw [hw2]; rfl)]
            refine iteT ?_
            have tupl : ∀ (x : Nat), True := fun _ => trivial
            refine ⟨(by show 2 ≤ sizeLine; decide), fun a1 ha1 => ?_⟩
            have u1 := same_new (o := .tup [V.int 0, V.int 0]) ha1
            have ea1 : (upd H12 a1 (.tup [V.int 0, V.int 0])) a1 = some (.tup [V.int 0, V.int 0]) := upd_same
            generalize upd H12 a1 (.tup [V.int 0, V.int 0]) = G1 at *
            refine ⟨(by show 2 ≤ sizeLine; decide), fun a2 ha2 => ?_⟩
            have u2 := same_new (o := .tup [V.int 1, V.int 1]) ha2
            have ea2 : (upd G1 a2 (.tup [V.int 1, V.int 1])) a2 = some (.tup [V.int 1, V.int 1]) := upd_same
            generalize upd G1 a2 (.tup [V.int 1, V.int 1]) = G2 at *
            refine ⟨_, rfl, _, _, rfl, rfl, (by show 2 ≤ sizeLine; decide), fun a3 ha3 => ?_⟩
            generalize hg : upd G2 a3 (HO.tup _) = G3
            have u3 : Same G2 G3 := hg ▸ same_new ha3
            have ea3 : G3 a3 = some (.tup [V.int 0, V.int ((n : Nat) + 1)]) := by
              rw [← hg]
              exact upd_same
            clear hg
            refine ⟨_, rfl, _, rfl, (by show 2 ≤ sizeLine; decide), fun a4 ha4 => ?_⟩
            have u4 := same_new (o := .tup [u, num n]) ha4
            have ea4 : (upd G3 a4 (.tup [u, num n])) a4 = some (.tup [u, num n]) := upd_same
            generalize upd G3 a4 (.tup [u, num n]) = G4 at *
            refine ⟨(by show 2 ≤ sizeLine; decide), fun a5 ha5 => ?_⟩
            have u5 := same_new (o := .tup [V.int 0, V.non]) ha5
            have ea5 : (upd G4 a5 (.tup [V.int 0, V.non])) a5 = some (.tup [V.int 0, V.non]) := upd_same
            generalize upd G4 a5 (.tup [V.int 0, V.non]) = G5 at *
            refine ⟨(by show 2 ≤ sizeLine; decide), fun a6 ha6 => ?_⟩
            have u6 := same_new (o := .tup [V.int 2, V.int 1]) ha6
            have ea6 : (upd G5 a6 (.tup [V.int 2, V.int 1])) a6 = some (.tup [V.int 2, V.int 1]) := upd_same
            generalize upd G5 a6 (.tup [V.int 2, V.int 1]) = G6 at *
            refine ⟨(by show 6 ≤ sizeLine; decide), fun lp hlp => ?_⟩
            have u7 := same_new (o := .lst [.ref a1, .ref a2, .ref a3, .ref a4, .ref a5, .ref a6]) hlp
            have elp : (upd G6 lp (.lst [.ref a1, .ref a2, .ref a3, .ref a4, .ref a5, .ref a6])) lp = some (.lst [.ref a1, .ref a2, .ref a3, .ref a4, .ref a5, .ref a6]) := upd_same
            generalize upd G6 lp (.lst [.ref a1, .ref a2, .ref a3, .ref a4, .ref a5, .ref a6]) = G7 at *
            have w6 := u7
            have w5 := u6.trans w6
            have w4 := u5.trans w5
            have w3 := u4.trans w4
            have w2 := u3.trans w3
            have w1 := u2.trans w2
            have w0 := u1.trans w1
            have hBG := hB12.kp (H' := G7) fun x z => w0 _ _ z
            refine ⟨_, rfl, b, 6, m + 5 + 1, rfl, hBG, by omega, by decide, by decide, fun gs G8 c0 c1 hBs ks8 => ?_⟩
            have kb8 : ∀ c x, c ≠ b → G7 c = some x → G8 c = some x := fun c x hc z => (ks8 c hc).trans z
            have nbt : ∀ c ys, G7 c = some (.tup ys) → c ≠ b := fun c ys z e => by
              obtain ⟨_, _, _, kvs, hb, _⟩ := hBG
              rw [e, hb] at z
              cases z
            have lpb : lp ≠ b := fun e => by
              obtain ⟨_, _, _, kvs, hb, _⟩ := hBG
              rw [← e, elp] at hb
              cases hb
            have hdu8 : ∀ H', Same G8 H' → Dp K H' u du := fun H' s => hdu H' (s _ _ (kb8 _ _ zb (w0 _ _ ez12)))
            obtain ⟨aj, lo, hh, dl, dh, haj, eaj, hdl, hdh, okl, okh, bads⟩ : ∃ (aj : Addr) (lo hh : V) (dl dh : PyData), atI [V.ref a1, V.ref a2, V.ref a3, V.ref a4, V.ref a5, V.ref a6] gs = some (.ref aj) ∧ G8 aj = some (.tup [lo, hh]) ∧ (∀ H', Same G8 H' → Dp K H' lo dl) ∧ (∀ H', Same G8 H' → Dp K H' hh dh) ∧ Okd dl 10000 2 ∧ Okd dh 10000 2 ∧ NoS n dl dh := by
              have oki : ∀ k : Nat, k ≤ 20 → Okd (.int ((k : Nat) : Int)) 10000 2 := fun k h => (num2k (by omega)).up (by decide) (by decide)
              rcases (by omega : gs = 0 ∨ gs = 1 ∨ gs = 2 ∨ gs = 3 ∨ gs = 4 ∨ gs = 5) with rfl | rfl | rfl | rfl | rfl | rfl
              · exact ⟨a1, .int 0, .int 0, .int 0, .int 0, rfl, kb8 _ _ (nbt _ _ (w1 _ _ ea1)) (w1 _ _ ea1), fun _ _ => .int _, fun _ _ => .int _, oki 0 (by decide), oki 0 (by decide), .inr ⟨0, rfl, by omega, rfl⟩⟩
              · refine ⟨a2, .int 1, .int 1, .int 1, .int 1, rfl, kb8 _ _ (nbt _ _ (w2 _ _ ea2)) (w2 _ _ ea2), fun _ _ => .int _, fun _ _ => .int _, oki 1 (by decide), oki 1 (by decide), ?_⟩
                by_cases hn : 1 < n
                · exact .inr ⟨1, rfl, hn, rfl⟩
                · refine .inl ?_
                  show (decide ((0 : Int) ≤ 1) && decide ((1 : Int) ≤ (n : Nat) - 1)) = false
                  rw [decide_eq_false (by omega : ¬ (1 : Int) ≤ (n : Nat) - 1), Bool.and_false]
              · refine ⟨a3, .int 0, .int ((n : Nat) + 1), .int 0, .int ((n : Nat) + 1), rfl, kb8 _ _ (nbt _ _ (w3 _ _ ea3)) (w3 _ _ ea3), fun _ _ => .int _, fun _ _ => .int _, oki 0 (by decide), oki (n + 1) (by omega), .inr ⟨0, rfl, by omega, ?_⟩⟩
                show (decide _ && decide (((n : Nat) : Int) + 1 ≤ (n : Nat))) = false
                rw [decide_eq_false (by omega : ¬ ((n : Nat) : Int) + 1 ≤ (n : Nat)), Bool.and_false]
              · exact ⟨a4, u, num n, du, .int (n : Nat), rfl, kb8 _ _ (nbt _ _ (w4 _ _ ea4)) (w4 _ _ ea4), hdu8, fun _ _ => .int _, oku, oki n (by omega), .inl badu⟩
              · exact ⟨a5, .int 0, .non, .int 0, .none, rfl, kb8 _ _ (nbt _ _ (w5 _ _ ea5)) (w5 _ _ ea5), fun _ _ => .int _, fun _ _ => .non, oki 0 (by decide), okNone.up (by decide) (by decide), .inr ⟨0, rfl, by omega, rfl⟩⟩
              · refine ⟨a6, .int 2, .int 1, .int 2, .int 1, rfl, kb8 _ _ (nbt _ _ (w6 _ _ ea6)) (w6 _ _ ea6), fun _ _ => .int _, fun _ _ => .int _, oki 2 (by decide), oki 1 (by decide), ?_⟩
                by_cases hn : 2 < n
                · exact .inr ⟨2, rfl, hn, rfl⟩
                · refine .inl ?_
                  show (decide ((0 : Int) ≤ 2) && decide ((2 : Int) ≤ (n : Nat) - 1)) = false
                  rw [decide_eq_false (by omega : ¬ (2 : Int) ≤ (n : Nat) - 1), Bool.and_false]
            refine ⟨lp, _, _, .ref aj, rfl, rfl, SqL.of (kb8 _ _ lpb elp), haj, aj, _, rfl, SqT.of eaj, rfl, _, _, rfl, _, _, rfl, rfl, ?_⟩
            have eka8 := kb8 _ _ kab (w0 _ _ eka12)
            have k08 : ∀ c x, c ≠ b → H c = some x → G8 c = some x := fun c x hc z => kb8 _ _ hc (w0 _ _ (k012 c x hc z))
            refine ⟨_, rfl, _, rfl, 1, rfl, ka, _, _, num il, rfl, rfl, SqL.of eka8, hla, _, rfl, _, rfl, (by show 3 ≤ sizeLine; decide), fun l1 hl1 => ?_⟩
            have s12 := same_new (o := .lst [num il, lo, hh]) hl1
            have el1 : (upd G8 l1 (.lst [num il, lo, hh])) l1 = some (.lst [num il, lo, hh]) := upd_same
            generalize upd G8 l1 (.lst [num il, lo, hh]) = E1 at *
            refine ⟨_, rfl, _, rfl, (by show 3 ≤ sizeLine; decide), fun l2 hl2 => ?_⟩
            have s13 := same_new (o := .lst [.str "stretch", lo, hh]) hl2
            have el2 : (upd E1 l2 (.lst [.str "stretch", lo, hh])) l2 = some (.lst [.str "stretch", lo, hh]) := upd_same
            generalize upd E1 l2 (.lst [.str "stretch", lo, hh]) = E2 at *
            refine ⟨(by show 3 ≤ sizeLine; decide), fun t ht => ?_⟩
            have s14 := same_new (o := .tup [num way, .ref l1, .ref l2]) ht
            have et : (upd E2 t (.tup [num way, .ref l1, .ref l2])) t = some (.tup [num way, .ref l1, .ref l2]) := upd_same
            have s84 := s12.trans (s13.trans s14)
            have ok3 : Okd (.list [.str "stretch", dl, dh]) 60000 4 := (okList (ds := [.str "stretch", dl, dh]) (m := 10000) (e := 2) (n := 3) (fun x hx => by
              rcases List.mem_cons.mp hx with rfl | hx
              · exact okst.up (by decide) (by decide)
              rcases List.mem_cons.mp hx with rfl | hx
              · exact okl
              · rw [List.mem_singleton.mp hx]
                exact okh) (Nat.le_refl 3)).up (by decide) (by decide)
            refine q t l1 l2 _ way [num il, lo, hh] [.str "stretch", lo, hh] [.str "stretch", dl, dh] CS [(("low" : Str), lo), (("high" : Str), hh)] et ((s13.trans s14) _ _ el1) (s14 _ _ el2) ?_ (fun H2 s2 => .cons (.str _) (.cons (hdl _ (s84.trans s2)) (.cons (hdh _ (s84.trans s2)) .nil))) ok3 ((hBs.kp fun x z => s84 _ _ z).up (by omega)) fun c x hc z => s84 _ _ (k08 c x hc z)
            exact .inr (.inr (.inr (.inr (.inl ⟨il, lo, hh, dl, dh, hw2, rfl, kl il hil, hil, fun H' s => .dp (hdl _ (s84.trans s)), fun H' s => .dp (hdh _ (s84.trans s)), bads, rfl, rfl, rfl⟩))))
          · rw [decide_eq_false (show ¬ V.int (way : Nat) = V.int 2 from fun z => hw2 (num_eq (a := way) (b := 2) z))]
            refine iteF ?_
            refine ⟨_, rfl, _, rfl, 1, rfl, ka, _, _, num il, rfl, rfl, SqL.of eka12, hla, _, rfl, (by show 2 ≤ sizeLine; decide), fun l1 hl1 => ?_⟩
            have s12 := same_new (o := .lst [num il, u]) hl1
            have el1 : (upd H12 l1 (.lst [num il, u])) l1 = some (.lst [num il, u]) := upd_same
            generalize upd H12 l1 (.lst [num il, u]) = E1 at *
            refine ⟨_, rfl, (by show 2 ≤ sizeLine; decide), fun l2 hl2 => ?_⟩
            have s13 := same_new (o := .lst [.str "place", u]) hl2
            have el2 : (upd E1 l2 (.lst [.str "place", u])) l2 = some (.lst [.str "place", u]) := upd_same
            generalize upd E1 l2 (.lst [.str "place", u]) = E2 at *
            refine ⟨(by show 3 ≤ sizeLine; decide), fun t ht => ?_⟩
            have s14 := same_new (o := .tup [num way, .ref l1, .ref l2]) ht
            have et : (upd E2 t (.tup [num way, .ref l1, .ref l2])) t = some (.tup [num way, .ref l1, .ref l2]) := upd_same
            have s84 := s12.trans (s13.trans s14)
            refine q t l1 l2 _ way [num il, u] [.str "place", u] [.str "place", du] CP [(("found" : Str), u)] et ((s13.trans s14) _ _ el1) (s14 _ _ el2) ?_ (fun H2 s2 => .cons (.str _) (.cons (hdu12 _ (s84.trans s2)) .nil)) (okv _ _ oku okpl) ((hB12.kp fun x z => s84 _ _ z).up (by omega)) fun c x hc z => s84 _ _ (k012 c x hc z)
            rcases weven with h | h | h
            · exact .inr (.inl ⟨il, u, du, h, rfl, kl il hil, hil, fun H' s => .dp (hdu12 _ (s84.trans s)), badu, rfl, rfl, rfl⟩)
            · exact absurd h hw2
            · exact .inr (.inr (.inr (.inr (.inr (.inr (.inr (.inl ⟨il, u, du, h, rfl, kl il hil, fun H' s => .dp (hdu12 _ (s84.trans s)), badu, rfl, rfl, rfl⟩)))))))
    case one =>
      intro H11 ⟨k11, hB11⟩
      have k011 : ∀ c u, c ≠ b → H c = some u → H11 c = some u := fun c u hc z => k11 c u hc (k09 c u hc z)
      refine ⟨_, rfl, _, rfl, _, rfl, _, rfl, (by show 3 ≤ sizeLine; decide), fun l1 hl1 => ?_⟩
      have s12 := same_new (o := .lst [v, u, num n]) hl1
      have el1 : (upd H11 l1 (.lst [v, u, num n])) l1 = some (.lst [v, u, num n]) := upd_same
      generalize upd H11 l1 (.lst [v, u, num n]) = H12 at *
      refine ⟨_, rfl, (by show 2 ≤ sizeLine; decide), fun l2 hl2 => ?_⟩
      have s13 := same_new (o := .lst [.str "make", v]) hl2
      have el2 : (upd H12 l2 (.lst [.str "make", v])) l2 = some (.lst [.str "make", v]) := upd_same
      generalize upd H12 l2 (.lst [.str "make", v]) = H13 at *
      refine ⟨(by show 3 ≤ sizeLine; decide), fun t ht => ?_⟩
      have s14 := same_new (o := .tup [num way, .ref l1, .ref l2]) ht
      have et : (upd H13 t (.tup [num way, .ref l1, .ref l2])) t = some (.tup [num way, .ref l1, .ref l2]) := upd_same
      have s1114 := s12.trans (s13.trans s14)
      refine q t l1 l2 _ way [v, u, num n] [.str "make", v] [.str "make", d] CN [(("found" : Str), v)] et ((s13.trans s14) _ _ el1) (s14 _ _ el2) ?_ (fun H2 _ => .cons (.str _) (.cons (hd _) .nil)) (okv _ _ okd okmk) ((hB11.kp fun w z => s1114 _ _ z).up (by omega)) fun c w hc z => s1114 _ _ (k011 c w hc z)
      have dd : ∀ H', Same (upd H13 t (.tup [num way, .ref l1, .ref l2])) H' → D1 K H' v d := fun H' _ => .dp (hd _)
      rcases (by omega : way = 0 ∨ way = 1 ∨ way = 2 ∨ way = 3 ∨ way = 4 ∨ way = 5) with rfl | rfl | rfl | rfl | rfl | rfl
      · exact .inl ⟨v, u, num n, d, rfl, rfl, dd, bad, rfl, rfl, rfl⟩
      · exact .inr (.inr (.inl ⟨v, u, num n, d, rfl, rfl, dd, bad, rfl, rfl, rfl⟩))
      · exact .inr (.inr (.inr (.inl ⟨v, u, num n, d, rfl, rfl, dd, bad, rfl, rfl, rfl⟩)))
      · exact .inr (.inr (.inr (.inr (.inr (.inl ⟨v, u, num n, d, rfl, rfl, dd, bad, rfl, rfl, rfl⟩)))))
      · exact .inr (.inr (.inr (.inr (.inr (.inr (.inl ⟨v, u, num n, d, rfl, rfl, dd, hno (by decide), rfl, rfl, rfl⟩))))))
      · exact .inr (.inr (.inr (.inr (.inr (.inr (.inr (.inr ⟨v, u, num n, d, rfl, rfl, dd, hno (by decide), rfl, rfl, rfl⟩)))))))
end
end K46
namespace K46
open PySem PySem.Spec PyProof.Rows L2 Gd Gs Gx Ge
open C8 (clsBody Met pe_mt pe_mt0)
section
variable {P : Program} {w : World} {K : PySem.W.Frag} {mg : Str → Option Value} {base : Heap} {C CL CA fA CN fN CP fP CS fS CE : Addr}
theorem AskB.same {H H1 : Hp} {n : Nat} {ow ks : List Nat} {way : Nat} {things : List V} {C : Addr} {fs : List (Str × V)} {vals : List V} (s : Same H H1) (h : AskB K H CN CP CS n ow ks way things C fs vals) : AskB K H1 CN CP CS n ow ks way things C fs vals := by
  rcases h with h | h | h | h | h | h | h | h | h
  · obtain ⟨v, u, u2, d, e1, e2, hd, rest⟩ := h
    exact .inl (⟨v, u, u2, d, e1, e2, fun H' z => hd H' (s.trans z), rest⟩)
  · obtain ⟨i, v, d, e1, e2, hi, hk, hd, rest⟩ := h
    exact .inr (.inl (⟨i, v, d, e1, e2, hi, hk, fun H' z => hd H' (s.trans z), rest⟩))
  · obtain ⟨v, u, u2, d, e1, e2, hd, rest⟩ := h
    exact .inr (.inr (.inl (⟨v, u, u2, d, e1, e2, fun H' z => hd H' (s.trans z), rest⟩)))
  · obtain ⟨v, u, u2, d, e1, e2, hd, rest⟩ := h
    exact .inr (.inr (.inr (.inl (⟨v, u, u2, d, e1, e2, fun H' z => hd H' (s.trans z), rest⟩))))
  · obtain ⟨i, v, v2, d, d2, e1, e2, hi, hk, hd, hd2, rest⟩ := h
    exact .inr (.inr (.inr (.inr (.inl (⟨i, v, v2, d, d2, e1, e2, hi, hk, fun H' z => hd H' (s.trans z), fun H' z => hd2 H' (s.trans z), rest⟩)))))
  · obtain ⟨v, u, u2, d, e1, e2, hd, rest⟩ := h
    exact .inr (.inr (.inr (.inr (.inr (.inl (⟨v, u, u2, d, e1, e2, fun H' z => hd H' (s.trans z), rest⟩))))))
  · obtain ⟨v, u, u2, d, e1, e2, hd, rest⟩ := h
    exact .inr (.inr (.inr (.inr (.inr (.inr (.inl (⟨v, u, u2, d, e1, e2, fun H' z => hd H' (s.trans z), rest⟩)))))))
  · obtain ⟨i, v, d, e1, e2, hi, hd, rest⟩ := h
    exact .inr (.inr (.inr (.inr (.inr (.inr (.inr (.inl (⟨i, v, d, e1, e2, hi, fun H' z => hd H' (s.trans z), rest⟩))))))))
  · obtain ⟨v, u, u2, d, e1, e2, hd, rest⟩ := h
    exact .inr (.inr (.inr (.inr (.inr (.inr (.inr (.inr (⟨v, u, u2, d, e1, e2, fun H' z => hd H' (s.trans z), rest⟩))))))))
theorem AskB.rf {H : Hp} {n : Nat} {ow ks : List Nat} {way : Nat} {things : List V} {C : Addr} {fs : List (Str × V)} {vals : List V} (h : AskB K H CN CP CS n ow ks way things C fs vals) : Rf CA CN CP CS C fs vals := by
  rcases h with h | h | h | h | h | h | h | h | h
  · obtain ⟨v, u, u2, d, _, _, _, _, h1, h2, h3⟩ := h
    exact .inr (.inl ⟨v, h1, h2, h3⟩)
  · obtain ⟨i, v, d, _, _, _, _, _, _, h1, h2, h3⟩ := h
    exact .inr (.inr (.inl ⟨v, h1, h2, h3⟩))
  · obtain ⟨v, u, u2, d, _, _, _, _, h1, h2, h3⟩ := h
    exact .inr (.inl ⟨v, h1, h2, h3⟩)
  · obtain ⟨v, u, u2, d, _, _, _, _, h1, h2, h3⟩ := h
    exact .inr (.inl ⟨v, h1, h2, h3⟩)
  · obtain ⟨i, v, v2, d, d2, _, _, _, _, _, _, _, h1, h2, h3⟩ := h
    exact .inr (.inr (.inr ⟨v, v2, h1, h2, h3⟩))
  · obtain ⟨v, u, u2, d, _, _, _, _, h1, h2, h3⟩ := h
    exact .inr (.inl ⟨v, h1, h2, h3⟩)
  · obtain ⟨v, u, u2, d, _, _, _, _, h1, h2, h3⟩ := h
    exact .inr (.inl ⟨v, h1, h2, h3⟩)
  · obtain ⟨i, v, d, _, _, _, _, _, h1, h2, h3⟩ := h
    exact .inr (.inr (.inl ⟨v, h1, h2, h3⟩))
  · obtain ⟨v, u, u2, d, _, _, _, _, h1, h2, h3⟩ := h
    exact .inr (.inl ⟨v, h1, h2, h3⟩)
def spAr (C CL : Addr) : Sp := fun vs H Q _ => ∃ (N : Addr → Prop) (b o : Addr) (m : Int) (n : Nat) (ow pc ks : List Nat) (st : Int) (fs : List (Str × V)), vs = [.ref b, .ref o, num n] ∧ RowB N H o C CL n ow pc ks st fs ∧ BoxD H b m ∧ m ≤ 900000 ∧ ¬ N b ∧ ks ≠ [] ∧ ks.length ≤ 64 ∧ ow.length ≤ 63 ∧
  ∀ (H' : Hp), BoxD H' b (m + 20) → (∀ c u, c ≠ b → H c = some u → H' c = some u) → Q (.bl true) H'
theorem ok_ar (T : Txt K mg) (R : RfT P K mg CA fA CN fN CP fP CS fS CE) (c_caught : Gc.CalE P w K mg base 1 "_law_caught" (spCt CA CN CP CS)) (c_ask : CalX P w K mg base 9 "_law_ask" (spAsk K CN CP CS C CL)) (c__law_bad_ask : CalG P w K mg base 2 "_law_bad_ask" (spBad K CN CP CS C CL))
    (D : DefAt K mg "_law_asks_refused" s__law_asks_refused ["_law_box_here", "_law_rows", "_law_size"]) : CalG P w K mg base 11 "_law_asks_refused" (spAr C CL) := by
  refine D.cal sc__law_asks_refused (fun vs H Q E h => ?_) (fun f cdv A outer s H vs Q E hG hr h => ?_)
  · obtain ⟨N, b, o, m, n, ow, pc, ks, st, fs, rfl, _⟩ := h
    rfl
  · obtain ⟨N, b, o, m, n, ow, pc, ks, st, fs, rfl, r, hB, hm, nN, kne, h64, few, q⟩ := h
    refine ⟨_, (pss_cons (ps_asg (pe_g c__law_bad_ask hG (hr.mono (by decide)) (by rfl) (pa_cons (pv 0) (pa_cons (pv 1) (pa_cons (pv 2) pa_nil)))) (pg_tup (by rfl) (pgs_cons (pg_name (i := 3) sc__law_asks_refused.nd rfl (Or.inl rfl)) (pgs_cons (pg_name (i := 4) sc__law_asks_refused.nd rfl (Or.inl rfl)) (pgs_cons (pg_name (i := 5) sc__law_asks_refused.nd rfl (Or.inl rfl)) pgs_nil)))))
      (pss_cons (ps_set (i := 6) sc__law_asks_refused.nd rfl (Or.inl rfl) (pe_lst (pa_cons pe_str pa_nil)))
      (pss_cons (ps_try_as (i := 7) (tb := fun W => tDrop (tCallS (spAsk K CN CP CS C CL) (WE W) (tCons (tVar 1) (tCons (tVar 3) (tCons (tVar 4) tNil))))) (ts := fun a cls d => tAsg (Gc.tCallE (spCt CA CN CP CS) a cls d (tCons (tVar 7) tNil)) (gName 6)) (Wout := fun _ _ _ _ => False) rfl rfl sc__law_asks_refused.nd rfl rfl ⟨rfl, by decide, Or.inl R.g_MakesError⟩ takes0 (fun W pn xe tk _ => pss_one (ps_expr (by exact (pe_gx c_ask hG (hr.mono (by decide)) (by rfl) tk (by exact (pa_cons (pv 1) (pa_cons (pv 3) (pa_cons (pv 4) pa_nil)))))))) (fun a oe cls d pn hz hf => pss_one (ps_set (i := 6) sc__law_asks_refused.nd rfl (Or.inl rfl) (Gc.pe_callE c_caught List.mem_cons_self hz hf (roomM hr (by decide)) (by rfl) (pa_cons (pv 7) pa_nil)))))
      (pss_one (ps_ret (pe_cmpR op_eq (pe_callB (call_repr hG (hu64 hr)) (by rfl) T.b_repr boot_repr_ (pa_cons (pv 6) pa_nil)) (pe_callB (call_repr hG (hu64 hr)) (by rfl) T.b_repr boot_repr_ (pa_cons (pv 5) pa_nil)) (nomark _))))))), ?_⟩
    refine ⟨_, rfl, _, rfl, _, rfl, N, b, o, m, n, ow, pc, ks, st, fs, rfl, r, hB, hm, nN, kne, h64, few, fun t l1 l2 H1 way things vals ds CX xf et el1 el2 ab hdp okd hB1 k1 => ?_⟩
    refine ⟨t, _, rfl, SqT.of et, rfl, _, _, rfl, _, _, rfl, _, _, rfl, rfl, ?_⟩
    refine ⟨(by show 1 ≤ sizeLine; decide), fun l0 hl0 => ?_⟩
    have s1 := same_new (o := .lst [V.str "told"]) hl0
    generalize upd H1 l0 (.lst [V.str "told"]) = H2 at *
    have r2 := (r.kp (H' := H1) fun c u hc z => k1 c u (fun e => nN (e ▸ hc)) z).same s1
    obtain ⟨dx, e1, nl⟩ := r2.ins
    refine ⟨_, rfl, _, rfl, _, rfl, N, o, l1, n, ow, pc, ks, st, fs, way, things, CX, xf, vals, rfl, r2, s1 _ _ el1, ab.same s1, fun a ha => ?_⟩
    refine ⟨true, (AskB.rf (CA := CA) ab).exm R, fun _ a' ha' => ?_, fun z => nomatch z⟩
    have sx : Same H2 (upd H2 a (.xd xf)) := same_new ha
    have ex : (upd H2 a (.xd xf)) a = some (.xd xf) := upd_same
    generalize upd H2 a (.xd xf) = H3 at *
    refine ⟨_, rfl, a, CX, xf, vals, rfl, AskB.rf ab, rfl, rfl, ex, fun l H4 hl el s4 => ?_⟩
    have s24 := s1.trans (sx.trans s4)
    refine ⟨_, rfl, _, _, rfl, .d1 (.dp (.lst (SqL.of el) (hdp _ s24))), okd.sh, Nat.le_trans okd.ln (by decide), Nat.le_trans okd.dp (by decide), _, rfl, _, _, rfl, .d1 (.dp (.lst (SqL.of (s24 _ _ el2)) (hdp _ s24))), okd.sh, Nat.le_trans okd.ln (by decide), Nat.le_trans okd.dp (by decide), rfl, ?_⟩
    rw [decide_eq_true rfl]
    exact q H4 (hB1.kp fun u z => s24 _ _ z) fun c u hc z => s24 _ _ (k1 c u hc z)
end
end K46
namespace K46
open PySem PySem.Spec PyProof.Rows L2 Gd Gs Gx Ge
open C8 (clsBody Met pe_mt pe_mt0)
def prD (p : Nat × Nat) : PyData := .tuple [.int ((p.1 : Nat) : Int), .int ((p.2 : Nat) : Int)]
theorem prDp {K : PySem.W.Frag} {H : Hp} : ∀ (ps : List (Nat × Nat)) (xs : List V), PrX H xs ps → DpAll K H xs (ps.map prD)
  | [], [], _ => .nil
  | [], x :: xs, h => by cases h.len
  | c :: cs, [], h => by cases h.len
  | c :: cs, x :: xs, h => by
    obtain ⟨t, t1, t2⟩ := h.at_ 0 c rfl
    cases (Option.some.inj t1)
    exact .cons (.tup (SqT.of t2) (.cons (.int _) (.cons (.int _) .nil))) (prDp cs xs ⟨Nat.succ.inj h.len, fun i q e => h.at_ (i + 1) q e⟩)
theorem freeL_mem {ow pc ks : List Nat} {i n : Nat} {p : Nat × Nat} (h : p ∈ freeL ow pc ks i n) : p.1 < n ∧ p.2 = wrt ow pc p.1 64 i := by
  unfold freeL at h
  obtain ⟨q, hq, rfl⟩ := List.mem_map.mp h
  exact ⟨List.mem_range.mp (List.mem_filter.mp hq).1, rfl⟩
theorem freeL_len (ow pc ks : List Nat) (i n : Nat) : (freeL ow pc ks i n).length ≤ n := by
  unfold freeL
  rw [List.length_map]
  refine Nat.le_trans (List.length_filter_le ..) ?_
  rw [List.length_range]
  exact Nat.le_refl _
theorem prOk {ow pc ks : List Nat} {i n : Nat} (low : Low ow) (hn : n ≤ 16) (hi : i ≤ 63) : Okd (.list ((freeL ow pc ks i n).map prD)) 20000 2 := by
  refine (okList (m := 200) (e := 1) (n := 16) (fun d hd => ?_) (by rw [List.length_map]; have := freeL_len ow pc ks i n; omega)).up (by decide) (by decide)
  obtain ⟨p, hp, rfl⟩ := List.mem_map.mp hd
  obtain ⟨h1, h2⟩ := freeL_mem hp
  have h3 := wrt_le low pc p.1 64 i
  refine (okTuple (ds := [.int ((p.1 : Nat) : Int), .int ((p.2 : Nat) : Int)]) (m := 50) (e := 0) (n := 2) (fun d hd => ?_) (Nat.le_refl 2)).up (by decide) (by decide)
  rcases List.mem_cons.mp hd with rfl | hd
  · exact num2k (by omega)
  rcases List.mem_cons.mp hd with rfl | hd
  · exact num2k (by omega)
  cases hd
theorem hu65 {k : Nat} {A : Around} (hr : Room k A) : A.units + 65 < cLine := by
  have := hr.un
  omega

theorem prD_eqv (a b : Nat × Nat) : PyData.eqv (prD a) (prD b) = decide (a = b) := by
  obtain ⟨a1, a2⟩ := a
  obtain ⟨b1, b2⟩ := b
  simp only [prD, PyData.eqv, PyData.eqvAll, Bool.and_true]
  by_cases h1 : a1 = b1
  · by_cases h2 : a2 = b2
    · rw [h1, h2]
      simp
    · rw [decide_eq_false (fun z => h2 (Prod.mk.inj z).2)]
      simp
      omega
  · rw [decide_eq_false (fun z => h1 (Prod.mk.inj z).1)]
    simp
    omega
theorem any_pr (p : Nat × Nat) : ∀ os : List (Nat × Nat), ((os.map prD).any fun z => PyData.eqv z (prD p)) = decide (p ∈ os)
  | [] => by simp
  | o :: os => by
    rw [List.map_cons, List.any_cons, any_pr p os, prD_eqv]
    by_cases h : o = p
    · rw [h]
      simp
    · rw [decide_eq_false h, Bool.false_or]
      by_cases h2 : p ∈ os
      · rw [decide_eq_true h2, decide_eq_true (List.mem_cons_of_mem _ h2)]
      · rw [decide_eq_false h2, decide_eq_false (fun z => (List.mem_cons.mp z).elim (fun e => h e.symm) h2)]
theorem sh_pr (ps : List (Nat × Nat)) : SeqAt.shaped (.list (ps.map prD)) = true := by
  have hc : PyData.canLay0 (.list (ps.map prD)) = true := by
    simp only [PyData.canLay0]
    induction ps with
    | nil => simp [PyData.canLayAll0]
    | cons x xs ih => simp [PyData.canLayAll0, PyData.canLay0, prD, ih]
  have e : PyData.depthAll (ps.map prD) ≤ 1 := by
    clear hc
    induction ps with
    | nil => simp [PyData.depthAll]
    | cons x xs ih =>
      rw [List.map_cons, PyData.depthAll]
      have : (prD x).depth = 1 := by simp [prD, PyData.depth, PyData.depthAll]
      omega
  unfold SeqAt.shaped
  rw [hc, Bool.true_and]
  refine decide_eq_true ?_
  rw [PyData.depth]
  omega
def othL (ow pc : List Nat) (n : Nat) (ks : List Nat) : List (Nat × Nat) := ks.flatMap (readsL ow pc n)
theorem free_is (ow pc ks : List Nat) (i n : Nat) : (readsL ow pc n i).filter (fun p => !decide (p ∈ othL ow pc n ks)) = freeL ow pc ks i n := by
  unfold freeL readsL
  rw [List.filter_map]
  congr 1
  refine List.filter_congr fun q hq => ?_
  have hq := List.mem_range.mp hq
  show (!decide ((q, wrt ow pc q 64 i) ∈ othL ow pc n ks)) = freeQ ow pc ks i q
  unfold freeQ
  by_cases h : (q, wrt ow pc q 64 i) ∈ othL ow pc n ks
  · rw [decide_eq_true h]
    obtain ⟨k, hk, hm⟩ := List.mem_flatMap.mp h
    obtain ⟨q', _, e⟩ := List.mem_map.mp hm
    obtain ⟨rfl, e2⟩ := Prod.mk.inj e
    refine (List.all_eq_false.mpr ⟨k, hk, ?_⟩).symm
    rw [e2]
    simp
  · rw [decide_eq_false h]
    refine (List.all_eq_true.mpr fun k hk => ?_).symm
    refine decide_eq_true (p := wrt ow pc q 64 k ≠ wrt ow pc q 64 i) ?_
    intro e
    refine h ?_
    refine List.mem_flatMap.mpr ⟨k, hk, List.mem_map.mpr ⟨q, List.mem_range.mpr hq, ?_⟩⟩
    show (q, wrt ow pc q 64 k) = _
    rw [e]
theorem reads_len (ow pc : List Nat) (n i : Nat) : (readsL ow pc n i).length = n := by
  unfold readsL
  rw [List.length_map, List.length_range]
theorem oth_len (ow pc : List Nat) (n : Nat) : ∀ ks : List Nat, (othL ow pc n ks).length = ks.length * n
  | [] => by
    show 0 = 0 * n
    rw [Nat.zero_mul]
  | k :: ks => by
    show (readsL ow pc n k ++ othL ow pc n ks).length = _
    rw [List.length_append, reads_len, oth_len ow pc n ks, List.length_cons, Nat.succ_mul]
    omega
theorem PrX.app {H H' : Hp} {xs ys : List V} {ps qs : List (Nat × Nat)} (a : PrX H xs ps) (k : ∀ c zs, H c = some (.tup zs) → H' c = some (.tup zs)) (b : PrX H' ys qs) : PrX H' (xs ++ ys) (ps ++ qs) := by
  refine ⟨by rw [List.length_append, List.length_append, a.len, b.len], fun i p h => ?_⟩
  by_cases hi : i < ps.length
  · rw [List.getElem?_append_left hi] at h
    obtain ⟨t, t1, t2⟩ := a.at_ i p h
    exact ⟨t, by rw [List.getElem?_append_left (by rw [a.len]; exact hi)]; exact t1, k _ _ t2⟩
  · rw [List.getElem?_append_right (by omega)] at h
    obtain ⟨t, t1, t2⟩ := b.at_ _ p h
    exact ⟨t, by rw [List.getElem?_append_right (by rw [a.len]; omega), a.len]; exact t1, t2⟩
theorem PrX.kt {H H' : Hp} {xs : List V} {ps : List (Nat × Nat)} (a : PrX H xs ps) (k : ∀ c zs, H c = some (.tup zs) → H' c = some (.tup zs)) : PrX H' xs ps := ⟨a.len, fun i p h => by
  obtain ⟨t, t1, t2⟩ := a.at_ i p h
  exact ⟨t, t1, k _ _ t2⟩⟩
theorem PrX.gt {H : Hp} {xs : List V} {ps : List (Nat × Nat)} (a : PrX H xs ps) {i : Nat} {x : V} (e : xs[i]? = some x) : ∃ p t, ps[i]? = some p ∧ x = .ref t ∧ H t = some (.tup [num p.1, num p.2]) := by
  have hl : i < xs.length := by
    by_cases z : i < xs.length
    · exact z
    · rw [List.getElem?_eq_none (by omega)] at e
      cases e
  have hc : i < ps.length := by rw [← a.len]; exact hl
  obtain ⟨t, t1, t2⟩ := a.at_ i _ (List.getElem?_eq_getElem hc)
  rw [e] at t1
  exact ⟨_, t, List.getElem?_eq_getElem hc, Option.some.inj t1, t2⟩
theorem t3Ok {c : T3} (h1 : c.1 ≤ 2000) (h2 : c.2.1 ≤ 2000) (h3 : -big30 ≤ c.2.2 ∧ c.2.2 ≤ big30) : Okd (t3D c) 300 1 := by
  refine (okTuple (ds := [.int ((c.1 : Nat) : Int), .int ((c.2.1 : Nat) : Int), .int c.2.2]) (m := 50) (e := 0) (n := 3) (fun d hd => ?_) (Nat.le_refl 3)).up (by decide) (by decide)
  rcases List.mem_cons.mp hd with rfl | hd
  · exact num2k h1
  rcases List.mem_cons.mp hd with rfl | hd
  · exact num2k h2
  rcases List.mem_cons.mp hd with rfl | hd
  · exact wtOk h3
  cases hd
theorem bxT_mem {ws : List Int} {ow pc : List Nat} {vl : List Int} {od : List Nat} {q : Nat} {c : T3} (low : Low ow) (g : Bg ws vl) (ol : ∀ k, k ∈ od → k ≤ ow.length) (h : c ∈ bxT ws ow pc vl od q) : c.1 ≤ ow.length ∧ c.2.1 ≤ ow.length ∧ -big30 ≤ c.2.2 ∧ c.2.2 ≤ big30 := by
  obtain ⟨i, hi, rfl⟩ := List.mem_map.mp h
  have h1 := (pos_mem.mp hi).1
  have hk : od.getD i 0 ∈ od := by
    rw [List.getD_eq_getElem?_getD, List.getElem?_eq_getElem h1]
    exact List.getElem_mem _
  have h2 := ol _ hk
  have h3 := wrt_le low pc q 64 (od.getD i 0)
  refine ⟨h2, ?_, ?_⟩
  · show wrt ow pc q 64 (od.getD i 0) ≤ _
    omega
  · show -big30 ≤ val ws ow pc vl q (od.getD i 0) ∧ val ws ow pc vl q (od.getD i 0) ≤ big30
    exact g.val ow pc q _
theorem bxOk {ws : List Int} {ow pc : List Nat} {vl : List Int} {od : List Nat} (low : Low ow) (g : Bg ws vl) (few : ow.length ≤ 63) (ol : ∀ k, k ∈ od → k ≤ ow.length) (ln : od.length ≤ 64) (q : Nat) : Okd (.list ((bxT ws ow pc vl od q).map t3D)) 30000 2 := by
  refine (okList (m := 300) (e := 1) (n := 64) (fun d hd => ?_) (by rw [List.length_map]; have : (bxT ws ow pc vl od q).length ≤ od.length := rbox_len ..; omega)).up (by decide) (by decide)
  obtain ⟨c, hc, rfl⟩ := List.mem_map.mp hd
  obtain ⟨a, b, d⟩ := bxT_mem low g ol hc
  exact t3Ok (by omega) (by omega) d
section
variable {P : Program} {w : World} {K : PySem.W.Frag} {mg : Str → Option Value} {base : Heap} {C CL CA fA CN fN CP fP CS fS CE : Addr}
def spLg (C CL : Addr) : Sp := fun vs H Q _ => ∃ (N M S : Addr → Prop) (o m : Addr) (ws : List Int) (ow pc : List Nat) (vl : List Int) (ks od : List Nat) (st : Int) (i : Nat), vs = [.ref o, .ref m, num i] ∧ Hse N M S H o m C CL ws ow pc vl ks od st ∧ od = odK ow ks ∧ i ∈ ks ∧ 2 ≤ ks.length ∧
  ∀ (H' : Hp) (N' : Addr → Prop), Hse N' M S H' o m C CL ws ow pc vl (ks.erase i) (od.erase i) st → (∀ c u, ¬ N c → ¬ M c → H c = some u → H' c = some u) → KT H H' → (∀ c, N' c → N c ∨ H c = none) → Q (.bl true) H'
theorem ok_lg (T : Txt K mg) (OC : RowC K C) (c__law_reads : CalG P w K mg base 2 "_law_reads" spReads) (c__law_told : CalG P w K mg base 9 "_law_told" (spToldN K C CL)) (c__law_runs : CalG P w K mg base 2 "_law_runs" spRuns) (m_let_go : Met P w K mg base 8 C "let_go" (spGo C CL) []) (m_box : Met P w K mg base 3 C "box" (spBoxA C CL) [])
    (D : DefAt K mg "_law_let_go" s__law_let_go ["_law_boxed", "_law_model_here", "_law_make"]) : CalG P w K mg base 11 "_law_let_go" (spLg C CL) := by
  refine D.cal sc__law_let_go (fun vs H Q E h => ?_) (fun f cdv A outer s H vs Q E hG hr h => ?_)
  · obtain ⟨N, M, S, o, m, ws, ow, pc, vl, ks, od, st, i, rfl, _⟩ := h
    rfl
  · obtain ⟨N, M, S, o, m, ws, ow, pc, vl, ks, od, st, i, rfl, hs, hod, hik, h2k, q⟩ := h
    have ft := hs.row.fit
    have few := ft.few
    have sz := ft.sz
    have lks := hs.few
    have kl := hs.row.kl
    have hi := kl i hik
    have nks : ks.Nodup := by
      obtain ⟨NB, fs, rb, _⟩ := hs.row.b
      exact rb.kr.imp fun h => Nat.ne_of_lt h
    refine ⟨_, (pss_cons (ps_set (i := 3) sc__law_let_go.nd rfl (Or.inl rfl) (pe_g c__law_reads hG (hr.mono (by decide)) (by rfl) (pa_cons (pv 1) (pa_cons (pv 2) pa_nil))))
      (pss_cons (ps_expr (pe_bm PySem.F.plainAttrs_list PySem.F.slot_list_remove PySem.F.type_list_remove mt_remove (pe_dget (hu_of hr) (pv 1) pe_str (fun _ _ => rfl)) (pa_cons (pv 2) pa_nil)))
      (pss_cons (ps_set (i := 4) sc__law_let_go.nd rfl (Or.inr rfl) (pe_lst pa_nil))
      (pss_cons (ps_for PassesOwn.never rfl (pi_list (pe_dget (hu_of hr) (pv 1) pe_str (fun _ _ => rfl))) (pg_name (i := 5) sc__law_let_go.nd rfl (Or.inl rfl))
          (pss_one (ps_set (i := 4) sc__law_let_go.nd rfl (Or.inr rfl) (pe_op op_cat (pv 4) (pe_g c__law_reads hG (hr.mono (by decide)) (by rfl) (pa_cons (pv 1) (pa_cons (pv 5) pa_nil)))))))
      (pss_cons (ps_setLc (i := 6) (own := [("_law_write", 8)]) (g := gName 8) (tt := _) rfl sc__law_let_go.nd rfl rfl (sw_true rfl rfl rfl (by decide +kernel)) (pi_list (pv 3)) (blkOk_by (own := [("_law_write", 8)]) (N := ["_law_boxed", "_law_model_here", "_law_make", "_law_mine", "_law_others", "_law_other", "_law_due", "_law_place", "_law_write"]) (sc := defScope s__law_let_go) (by decide +kernel)) (fun _ _ _ _ _ => pg_name (i := 8) sc__law_let_go.nd rfl (Or.inl rfl)) (fun _ _ _ _ _ => (pts_one (pt_cmpR (show OpR _ (compareOp .NotIn) (rNotInD K) from op_notInD (hu65 hr)) (pv 8) (pv 4) (by rfl)))) (fun _ _ _ _ _ => (pv 8)))
      (pss_cons (ps_if (PW.pt (pw_or (pt_cmpR op_ne (pe_callB (call_repr hG (hu64 hr)) (by rfl) T.b_repr boot_repr_ (pa_cons (pe_mt m_let_go hr (by decide) (pv 0) (pa_cons (pv 2) pa_nil)) pa_nil)) (pe_callB (call_repr hG (hu64 hr)) (by rfl) T.b_repr boot_repr_ (pa_cons (pv 6) pa_nil)) (nomark _)) (pw_or1 (pt_cmpR (op_neD (hu64 hr)) (pe_g c__law_told hG (hr.mono (by decide)) (by rfl) (pa_cons (pv 0) (pa_cons (pv 2) pa_nil))) (pe_lst (pa_cons pe_str (pa_cons (pv 2) pa_nil))) (nomark _)))))
          (pss_one (ps_ret pe_bl)) pss_nil)
      (pss_cons (ps_set (i := 7) sc__law_let_go.nd rfl (Or.inl rfl) (pe_op op_sub (pe_callB call_len (by rfl) T.b_len boot_len_ (pa_cons (pe_ix ix_list (pe_dget (hu_of hr) (pv 1) pe_str (fun _ _ => rfl)) pe_int (fun _ _ => rfl)) pa_nil)) pe_int))
      (pss_one (ps_ret (pe_cmpR op_eq (pe_callB (call_repr hG (hu64 hr)) (by rfl) T.b_repr boot_repr_ (pa_cons (pe_lst (pa_cons (pe_mt m_box hr (by decide) (pv 0) (pa_cons pe_int pa_nil)) (pa_cons (pe_mt m_box hr (by decide) (pv 0) (pa_cons (pv 7) pa_nil)) pa_nil))) pa_nil)) (pe_callB (call_repr hG (hu64 hr)) (by rfl) T.b_repr boot_repr_ (pa_cons (pe_lst (pa_cons (pe_g c__law_runs hG (hr.mono (by decide)) (by rfl) (pa_cons (pv 1) (pa_cons pe_int pa_nil))) (pa_cons (pe_g c__law_runs hG (hr.mono (by decide)) (by rfl) (pa_cons (pv 1) (pa_cons (pv 7) pa_nil))) pa_nil))) pa_nil)) (nomark _))))))))))), ?_⟩
    refine ⟨_, rfl, _, rfl, M, S, m, ws, ow, pc, vl, ks, i, rfl, hs.md, ft, hi, fun a1 H1 xs1 ha1 ea1 px1 fx1 s1 => ?_⟩
    have hs1 := hs.same s1
    obtain ⟨ma, rr, w_, d, kvs, as, h0, rfl, h1, hl0, hr', h2, h3, h4, m0, m1, m2, m3, m4, nab, nac, nad, nbc, nbd, ncd⟩ := id hs1.md.ex
    obtain ⟨jj, _, hj, hno, he⟩ := first_at (ns := ks.map fun k : Nat => (k : Int)) (k := (i : Int)) (List.mem_map.mpr ⟨i, hik, rfl⟩)
    refine ⟨_, rfl, m, _, rfl, dgs h0 rfl, .inl ⟨rfl, _, SqL.of h4⟩, _, rfl, d, _, (i : Int), jj, rfl, rfl, (num_map ks ▸ h4), hj, hno, ?_⟩
    rw [he, map_erase, ← num_map]
    have k4 : ∀ c u, c ≠ d → H1 c = some u → (upd H1 d (.lst ((ks.erase i).map num))) c = some u := fun c u hc z => by
      rw [upd_ne hc]
      exact z
    have e4 : (upd H1 d (.lst ((ks.erase i).map num))) d = some (.lst ((ks.erase i).map num)) := upd_same
    have k4' : ∀ c, c ≠ d → (upd H1 d (.lst ((ks.erase i).map num))) c = H1 c := fun c hc => upd_ne hc
    generalize upd H1 d (.lst ((ks.erase i).map num)) = H4 at *
    have nmd : m ≠ d := fun z => by rw [z, h4] at h0; cases h0
    have md4 : MdlR M S H4 m ws ow pc vl (ks.erase i) := ⟨ma, rr, w_, d, _, as, k4 _ _ nmd h0, rfl, k4 _ _ nad h1, hl0, fun x y hx => ⟨(hr' x y hx).1, k4 _ _ (fun e => hs.ms _ m4 (e ▸ (hr' x y hx).1)) (hr' x y hx).2⟩, k4 _ _ nbd h2, k4 _ _ ncd h3, e4, m0, m1, m2, m3, m4, nab, nac, nad, nbc, nbd, ncd⟩
    have kt4 : KT H1 H4 := fun c ys z => k4 _ _ (fun e => by rw [e, h4] at z; cases z) z
    have row4 := hs1.row.kp (fun c u hc z => k4 c u (fun e => hs.nm c hc (e ▸ m4)) z) kt4
    have ld4 : ∀ c, (M c ∨ S c) → H4 c ≠ none := fun c hc z => by
      by_cases e : c = d
      · rw [e, e4] at z
        cases z
      · rw [k4' c e] at z
        exact hs1.ld c hc z
    have a1d : a1 ≠ d := fun e => hs.ld d (.inl m4) (e ▸ ha1)
    have ea4 := k4 _ _ a1d ea1
    have px4 := px1.kt kt4
    clear hno hj he
    -- what the others read
    refine ⟨(by show 0 ≤ sizeLine; decide), fun L0 hL0 => ?_⟩
    have s5 := same_new (o := .lst []) hL0
    have eL0 : (upd H4 L0 (.lst [])) L0 = some (.lst []) := upd_same
    generalize upd H4 L0 (.lst []) = H5 at *
    obtain ⟨kk, hkk⟩ : ∃ kk, kk = ks.erase i := ⟨_, rfl⟩
    have hkl : kk.length ≤ 63 := by
      rw [hkk, List.length_erase_of_mem hik]
      omega
    have hkm : ∀ x, x ∈ kk → x ≤ ow.length := fun x hx => kl x (List.mem_of_mem_erase (hkk ▸ hx))
    rw [← hkk] at md4 e4
    refine ⟨_, rfl, m, _, rfl, dgs (s5 _ _ (k4 _ _ nmd h0)) rfl, d, rfl, ⟨_, SqL.of (s5 _ _ e4)⟩, ?_⟩
    refine for_list (K := K) (a := d) (xs := kk.map num) (fun n σ H' => ∃ (y5 : Option V) (Lk : Addr) (xs : List V), σ = [some (.ref o), some (.ref m), some (num i), some (.ref a1), some (.ref Lk), y5, none, none, none] ∧ Same H5 H' ∧ H' Lk = some (.lst xs) ∧ PrX H' xs (othL ow pc ws.length (kk.take n)))
      ⟨none, L0, [], rfl, fun c u z => z, eL0, ⟨rfl, fun i p e => by cases e⟩⟩ (fun n σ H' _ hP => ?_) (fun n x σ H6 hnx hP => ?_) (fun σ H6 hP => ?_)
    · obtain ⟨_, _, _, rfl, s6, _⟩ := hP
      exact SqL.of (s6 _ _ (s5 _ _ e4))
    · obtain ⟨y5, Lk, xs, rfl, s6, eLk, pk⟩ := hP
      rw [List.getElem?_map] at hnx
      obtain ⟨k, hk, rfl⟩ := Option.map_eq_some_iff.mp hnx
      have hkl2 := hkm k (List.mem_of_getElem? hk)
      refine ⟨_, rfl, _, rfl, _, rfl, M, S, m, ws, ow, pc, vl, kk, k, rfl, (md4.same s5).same s6, ft, hkl2, fun a2 H7 xs2 ha2 ea2 px2 fx2 s7 => ?_⟩
      have eLk7 := s7 _ _ eLk
      have hxl := pk.len
      rw [oth_len, List.length_take] at hxl
      have hx2 := px2.len
      rw [reads_len] at hx2
      have hb : xs.length ≤ 63 * 16 := by
        rw [hxl]
        exact Nat.mul_le_mul (by omega) sz.2
      refine ⟨Lk, a2, xs, xs2, rfl, rfl, eLk7, ea2, Nat.le_trans (show xs.length + xs2.length ≤ 2000 by omega) (by decide), fun p hp => ?_⟩
      have s8 := same_new (o := .lst (xs ++ xs2)) hp
      have ep : (upd H7 p (.lst (xs ++ xs2))) p = some (.lst (xs ++ xs2)) := upd_same
      refine ⟨_, p, xs ++ xs2, rfl, s6.trans (s7.trans s8), ep, ?_⟩
      have hth : othL ow pc ws.length (kk.take (n + 1)) = othL ow pc ws.length (kk.take n) ++ readsL ow pc ws.length k := by
        rw [List.take_add_one, hk]
        unfold othL
        rw [List.flatMap_append]
        simp
      rw [hth]
      exact (pk.kt (H' := H7) fun c zs z => s7 _ _ z).app (fun c zs z => s8 _ _ z) (px2.kt fun c zs z => s8 _ _ z)
    obtain ⟨y5, Lk, xs, rfl, s6, eLk, pk⟩ := hP
    rw [List.length_map, List.take_length] at pk
    have s46 := s5.trans s6
    have ea6 := s46 _ _ ea4
    have px6 := px4.kt fun c zs z => s46 _ _ z
    -- what is due
    refine ⟨_, rfl, a1, rfl, ⟨_, SqL.of ea6⟩, fun B hB => ?_⟩
    refine lc_it (walk_list (xs := xs1)) (fun n H' => ∃ ys : List V, Same H6 H' ∧ H' B = some (.lst ys) ∧ PrX H' ys (((readsL ow pc ws.length i).take n).filter fun p => !decide (p ∈ othL ow pc ws.length kk)) ∧ ys.length ≤ n) ⟨[], same_new hB, upd_same, ⟨rfl, fun i p e => by cases e⟩, Nat.zero_le _⟩ (fun n H' _ hP => ?_) (fun n v H7 H8 hn hP hY => ?_) (fun H7 hP => ?_)
    · obtain ⟨_, s7, _⟩ := hP
      exact SqL.of (s7 _ _ ea6)
    · obtain ⟨rfl, hv⟩ := hY
      obtain ⟨ys, s7, eB, py, yn⟩ := hP
      obtain ⟨p, t, hp, rfl, ht⟩ := px6.gt hv
      have ht7 := s7 _ _ ht
      have hn2 : n < ws.length := by
        by_cases h : n < (readsL ow pc ws.length i).length
        · rw [reads_len] at h
          exact h
        · rw [List.getElem?_eq_none (by omega)] at hp
          cases hp
      have htk : (readsL ow pc ws.length i).take (n + 1) = (readsL ow pc ws.length i).take n ++ [p] := by
        rw [List.take_add_one, hp]
        rfl
      refine ⟨rfl, ?_⟩
      refine ⟨_, rfl, _, rfl, prD p, (othL ow pc ws.length kk).map prD, .tup (SqT.of ht7) (.cons (.int _) (.cons (.int _) .nil)), .lst (SqL.of (s7 _ _ eLk)) (prDp _ _ (pk.kt fun c zs z => s7 _ _ z)), ?_, sh_pr _, ?_⟩
      · unfold SeqAt.shaped
        simp [prD, PyData.canLay0, PyData.canLayAll0, PyData.depth, PyData.depthAll]
      rw [any_pr, htk, List.filter_append]
      by_cases hg : p ∈ othL ow pc ws.length kk
      · rw [decide_eq_true hg]
        refine ⟨_, rfl, iteF ⟨ys, s7, eB, ?_, by omega⟩⟩
        rw [List.filter_cons, decide_eq_true hg]
        simpa using py
      · rw [decide_eq_false hg]
        refine ⟨_, rfl, iteT ⟨_, rfl, _, eB, small1000 (by omega), ys ++ [.ref t], fun c u z => ?_, upd_same, ?_, by rw [List.length_append]; show ys.length + 1 ≤ _; omega⟩⟩
        · rw [upd_ne (ne_of_none z hB)]
          exact s7 _ _ z
        · rw [List.filter_cons, decide_eq_false hg]
          have kB : ∀ c zs, H8 c = some (.tup zs) → (upd H8 B (.lst (ys ++ [.ref t]))) c = some (.tup zs) := fun c zs z => by
            rw [upd_ne (fun e => by rw [e, eB] at z; cases z)]
            exact z
          have := py.snoc (p := p) kB (kB _ _ ht7)
          simpa using this
    obtain ⟨ys, s7, eB, py, yn⟩ := hP
    rw [List.take_of_length_le (by rw [reads_len, px1.len, reads_len]; exact Nat.le_refl _), free_is] at py
    have s47 := s46.trans s7
    have row7 := row4.same s47
    have md7 := md4.same s47
    have hie : od.erase i = odK ow kk := by
      rw [hod, hkk]
      exact (odK_go nks).symm
    have hnk : i ∉ kk := fun z => by
      rw [hkk] at z
      exact (nks.mem_erase_iff.mp z).1 rfl
    obtain ⟨dx, fs, e7, nl⟩ := row7.ins
    refine ⟨_, rfl, o, dx, fs, rfl, e7, nl _ (by decide), _, rfl, N, o, ws, ow, pc, vl, ks, od, st, i, rfl, row7, hi, hik, h2k, by omega, fun a5 H8 xs8 N8 ha5 ea5 px8 r8 na8 k8 f8 => ?_⟩
    rw [← hkk] at r8 px8
    have ld7 : ∀ c, (M c ∨ S c) → H7 c ≠ none := fun c hc z => ld4 c hc (none_of' s47 z)
    have kt8 : KT H7 H8 := row7.kt k8
    have nNB : ¬ N B := fun h => ((row4.same s46).laid _ h).ne hB
    have eB8 := k8 _ _ nNB eB
    have okp := prOk (pc := pc) (ks := kk) ft.low sz.2 (show i ≤ 63 by omega)
    refine ⟨_, _, rfl, .d1 (.dp (.lst (SqL.of ea5) (prDp _ _ px8))), okp.sh, Nat.le_trans okp.ln (by decide), Nat.le_trans okp.dp (by decide), _, rfl, _, _, rfl, .d1 (.dp (.lst (SqL.of eB8) (prDp _ _ (py.kt kt8)))), okp.sh, Nat.le_trans okp.ln (by decide), Nat.le_trans okp.dp (by decide), rfl, _, rfl, ifSame ?_⟩
    have md8 : MdlR M S H8 m ws ow pc vl kk := md7.kp fun c u hc z => k8 _ _ (fun h => hc.elim (hs.nm c h) (hs.ns c h)) z
    have ld8 : ∀ c, (M c ∨ S c) → H8 c ≠ none := fun c hc z => by
      obtain ⟨u, hu⟩ := Option.ne_none_iff_exists'.mp (ld7 c hc)
      rw [k8 c u (fun h => hc.elim (hs.nm c h) (hs.ns c h)) hu] at z
      cases z
    have hs8 : Hse N8 M S H8 o m C CL ws ow pc vl kk (od.erase i) st := ⟨r8, md8, fun c h hm => (f8 c h).elim (fun h => hs.nm c h hm) (ld7 c (.inl hm)), fun c h hm => (f8 c h).elim (fun h => hs.ns c h hm) (ld7 c (.inr hm)), hs.ms, ld8, hs.bg, fun z => by
      have := congrArg List.length (hkk.symm.trans z)
      rw [List.length_erase_of_mem hik] at this
      have : ks.length - 1 = 0 := this
      omega⟩
    have k18 : ∀ c u, ¬ N c → ¬ M c → H c = some u → H8 c = some u := fun c u h1 h2 z => k8 _ _ h1 (s47 _ _ (k4 _ _ (fun e => h2 (e ▸ m4)) (s1 _ _ z)))
    have kt18 : KT H H8 := fun c zs z => kt8 _ _ (s47 _ _ (kt4 _ _ (s1 _ _ z)))
    have f18 : ∀ c, N8 c → N c ∨ H c = none := fun c h => (f8 c h).imp id fun z => by
      have z4 := none_of' s47 z
      refine none_of' s1 ?_
      by_cases e : c = d
      · rw [e, e4] at z4
        cases z4
      · rwa [k4' c e] at z4
    clear k8 f8 ld8 ld7 md8 r8 md7 row7 row4 ld4 md4 e7 nl eB8 py eB s7 kt8 px8 ea5 ha5 yn
    obtain ⟨NB, fsb, rb8, _⟩ := hs8.row.b
    refine ⟨_, rfl, _, rfl, NB, o, ws.length, ow, pc, kk, st, fsb, num i, .int (i : Nat), rfl, rb8, fun _ _ => .dp (.int _), .inr ⟨i, rfl, hi, hnk⟩, fun l H9 hl el s9 => ?_⟩
    refine ⟨_, rfl, (by show 2 ≤ sizeLine; decide), fun l2 hl2 => ?_⟩
    have s10 := same_new (o := .lst [.str "make", num i]) hl2
    have el2 : (upd H9 l2 (.lst [.str "make", num i])) l2 = some (.lst [.str "make", num i]) := upd_same
    generalize upd H9 l2 (.lst [.str "make", num i]) = H10 at *
    have sok : PyData.strOk (Str.ofString "make") = true := by decide +kernel
    have shm : SeqAt.shaped (.list [.str "make", .int ((i : Nat) : Int)]) = true := by
      unfold SeqAt.shaped
      simp [PyData.canLay0, PyData.canLayAll0, PyData.depth, PyData.depthAll, sok]
    refine ⟨.list [.str "make", .int (i : Nat)], .list [.str "make", .int (i : Nat)], .lst (SqL.of (s10 _ _ el)) (.cons (.str _) (.cons (.int _) .nil)), .lst (SqL.of el2) (.cons (.str _) (.cons (.int _) .nil)), shm, shm, ?_⟩
    rw [PySem.SeqAt.eqv_refl _ (by simp [PyData.canLay0, PyData.canLayAll0, sok])]
    refine ⟨_, rfl, iteF ?_⟩
    have hs10 := (hs8.same s9).same s10
    -- two boxes
    obtain ⟨ma, rr, w_, d', kvs, as, h0, rfl, h1, hl0, hr', h2, h3, h4, m0', m1', m2', m3', m4', _⟩ := id hs10.md.ex
    obtain ⟨xi, hxi⟩ : ∃ xi, as[0]? = some xi := ⟨as[0]'(by omega), List.getElem?_eq_getElem (by omega)⟩
    obtain ⟨sx, exi⟩ := hr' _ xi hxi
    refine ⟨_, rfl, m, _, rfl, dgs h0 rfl, ma, _, _, .ref xi, rfl, rfl, SqL.of h1, atI_nat (j := 0) (by rw [List.getElem?_map, hxi]; rfl), .ref xi, _, rfl, .inl ⟨_, SqL.of exi, rfl⟩, _, _, rfl, rfl, ?_⟩
    rw [List.length_map, rowV_len]
    rw [show ((fun (i j : Int) => V.int (i - j)) ((ws.length : Nat) : Int) 1) = num (ws.length - 1) from by
      show V.int _ = V.int _
      congr 1
      omega]
    obtain ⟨odp, _⟩ := hs10.row.odl
    have odl : (od.erase i).length ≤ 64 := by rw [odp.length_eq]; omega
    have ol : ∀ k, k ∈ od.erase i → k ≤ ow.length := fun k hk => hkm k (odp.mem_iff.mp hk)
    obtain ⟨dx, fs, e10, nl⟩ := hs10.row.ins
    refine ⟨_, rfl, o, dx, fs, rfl, e10, nl _ (by decide), N8, o, ws, ow, pc, vl, kk, od.erase i, st, 0, rfl, hs10.row, by omega, fun b1 H11 ys1 hb1 eb1 t1 s11 => ?_⟩
    have hs11 := hs10.same s11
    refine ⟨_, rfl, o, dx, fs, rfl, s11 _ _ e10, nl _ (by decide), _, rfl, N8, o, ws, ow, pc, vl, kk, od.erase i, st, ws.length - 1, rfl, hs11.row, by omega, fun b2 H12 ys2 hb2 eb2 t2 s12 => ?_⟩
    refine ⟨(by show 2 ≤ sizeLine; decide), fun lb hlb => ?_⟩
    have s13 := same_new (o := .lst [.ref b1, .ref b2]) hlb
    have elb : (upd H12 lb (.lst [.ref b1, .ref b2])) lb = some (.lst [.ref b1, .ref b2]) := upd_same
    generalize upd H12 lb (.lst [.ref b1, .ref b2]) = H13 at *
    have s1113 := s12.trans s13
    obtain ⟨DD, hDD⟩ : ∃ DD : List PyData, DD = [.list ((bxT ws ow pc vl (od.erase i) 0).map t3D), .list ((bxT ws ow pc vl (od.erase i) (ws.length - 1)).map t3D)] := ⟨_, rfl⟩
    have okx : Okd (.list DD) 100000 3 := by
      rw [hDD]
      refine (okList (ds := [.list ((bxT ws ow pc vl (od.erase i) 0).map t3D), .list ((bxT ws ow pc vl (od.erase i) (ws.length - 1)).map t3D)]) (m := 30000) (e := 2) (n := 2) (fun x hx => ?_) (Nat.le_refl 2)).up (by decide) (by decide)
      rcases List.mem_cons.mp hx with rfl | hx
      · exact bxOk ft.low hs.bg few ol odl 0
      · rw [List.mem_singleton.mp hx]
        exact bxOk ft.low hs.bg few ol odl _
    have hd1 : DpAll K H13 [.ref b1, .ref b2] DD := by
      rw [hDD]
      exact .cons (.lst (SqL.of (s1113 _ _ eb1)) (t3Dp _ _ (t1.kp (KT.of s1113)))) (.cons (.lst (SqL.of (s13 _ _ eb2)) (t3Dp _ _ (t2.kp (KT.of s13)))) .nil)
    refine ⟨_, _, rfl, .d1 (.dp (.lst (SqL.of elb) hd1)), okx.sh, Nat.le_trans okx.ln (by decide), Nat.le_trans okx.dp (by decide), ?_⟩
    have md13 := (hs11.same s1113).md
    refine ⟨_, rfl, M, S, m, ws, ow, pc, vl, kk, 0, rfl, md13, ft, by omega, by omega, fun c1 H14 zs1 hc1 ec1 u1 _ s14 => ?_⟩
    refine ⟨_, rfl, _, rfl, M, S, m, ws, ow, pc, vl, kk, ws.length - 1, rfl, md13.same s14, ft, by omega, by omega, fun c2 H15 zs2 hc2 ec2 u2 _ s15 => ?_⟩
    rw [← hie] at u1 u2
    refine ⟨(by show 2 ≤ sizeLine; decide), fun lc hlc => ?_⟩
    have s16 := same_new (o := .lst [.ref c1, .ref c2]) hlc
    have elc : (upd H15 lc (.lst [.ref c1, .ref c2])) lc = some (.lst [.ref c1, .ref c2]) := upd_same
    generalize upd H15 lc (.lst [.ref c1, .ref c2]) = H16 at *
    have s1516 := s15.trans s16
    have hd2 : DpAll K H16 [.ref c1, .ref c2] DD := by
      rw [hDD]
      exact .cons (.lst (SqL.of (s1516 _ _ ec1)) (t3Dp _ _ (u1.kp (KT.of s1516)))) (.cons (.lst (SqL.of (s16 _ _ ec2)) (t3Dp _ _ (u2.kp (KT.of s16)))) .nil)
    refine ⟨_, _, rfl, .d1 (.dp (.lst (SqL.of elc) hd2)), okx.sh, Nat.le_trans okx.ln (by decide), Nat.le_trans okx.dp (by decide), rfl, ?_⟩
    rw [decide_eq_true rfl]
    have sE := s9.trans (s10.trans (s11.trans (s1113.trans (s14.trans s1516))))
    have hsE := hs8.same sE
    rw [hkk] at hsE
    exact q H16 N8 hsE (fun c u h1 h2 z => sE _ _ (k18 c u h1 h2 z)) (fun c zs z => sE _ _ (kt18 _ _ z)) f18
end
end K46
namespace K46
open PySem PySem.Spec PyProof.Rows L2 Gd Gs Gx Ge
open C8 (clsBody Met pe_mt pe_mt0)
theorem up2_same {H : Hp} {o du C ob : Addr} (n1 : H o = none) (n2 : H du = none) : Same H (upd (upd H du (HO.own ob)) o (HO.ins C du [])) := fun c v z => by
  rw [upd_ne (ne_of_none z n1), upd_ne (ne_of_none z n2)]
  exact z
theorem upd_none {H : Hp} {a c : Addr} {u : HO} (h : (upd H a u) c = none) : H c = none := by
  by_cases e : c = a
  · rw [e, upd_same] at h
    cases h
  · rwa [upd_ne e] at h
theorem can_ints (xs : List Int) : PyData.canLay0 (.list (xs.map PyData.int)) = true := by
  simp only [PyData.canLay0]
  induction xs with
  | nil => simp [PyData.canLayAll0]
  | cons x xs ih => simp [PyData.canLayAll0, PyData.canLay0, ih]
theorem sh_ints (xs : List Int) : SeqAt.shaped (.list (xs.map PyData.int)) = true := by
  have e : ∀ xs : List Int, PyData.depthAll (xs.map PyData.int) = 0 := fun xs => by
    induction xs with
    | nil => simp [PyData.depthAll]
    | cons x xs ih => simp [PyData.depthAll, PyData.depth, ih]
  unfold SeqAt.shaped
  rw [can_ints]
  simp only [PyData.depth, e, Bool.true_and]
  decide
/-- the row and its model, all their own laid behind S0 -/
structure I1 (C CL : Addr) (ws : List Int) (S0 H : Hp) (o m : Addr) (N M S : Addr → Prop) (ow pc : List Nat) (vl : List Int) (ks od : List Nat) (st : Int) : Prop where
  sm : Same S0 H
  hs : Hse N M S H o m C CL ws ow pc vl ks od st
  fN : ∀ c, N c → S0 c = none
  fM : ∀ c, M c → S0 c = none
  od_ : od = odK ow ks
section
variable {C CL : Addr} {ws : List Int} {S0 H H' : Hp} {o m : Addr} {N M S N' S' : Addr → Prop} {ow pc ow' pc' : List Nat} {vl vl' : List Int} {ks od ks' od' : List Nat} {st st' : Int}
theorem I1.same (v : I1 C CL ws S0 H o m N M S ow pc vl ks od st) (s : Same H H') : I1 C CL ws S0 H' o m N M S ow pc vl ks od st := ⟨v.sm.trans s, v.hs.same s, v.fN, v.fM, v.od_⟩
theorem I1.nb {b : Addr} (v : I1 C CL ws S0 H o m N M S ow pc vl ks od st) (hb : H b = none) : ¬ N b ∧ ¬ M b ∧ ¬ S b := ⟨fun h => (v.hs.row.laid b h).ne hb, fun h => v.hs.ld b (.inl h) hb, fun h => v.hs.ld b (.inr h) hb⟩
theorem I1.kb {b : Addr} {n : Int} (v : I1 C CL ws S0 H o m N M S ow pc vl ks od st) (hB : BoxD H b n) (hb : S0 b = none) (nb : ¬ N b ∧ ¬ M b ∧ ¬ S b) (k : ∀ c u, c ≠ b → H c = some u → H' c = some u) : I1 C CL ws S0 H' o m N M S ow pc vl ks od st :=
  ⟨fun c u z => k c u (ne_of_none z hb) (v.sm c u z), v.hs.kb hB nb.1 nb.2.1 nb.2.2 k, v.fN, v.fM, v.od_⟩
theorem I1.step (v : I1 C CL ws S0 H o m N M S ow pc vl ks od st) (h : Hse N' M S' H' o m C CL ws ow' pc' vl' ks' od' st') (ho : od' = odK ow' ks') (k : ∀ c u, ¬ N c → ¬ M c → H c = some u → H' c = some u) (f : ∀ c, N' c → N c ∨ H c = none) : I1 C CL ws S0 H' o m N' M S' ow' pc' vl' ks' od' st' :=
  ⟨fun c u z => k c u (fun h => by rw [v.fN c h] at z; cases z) (fun h => by rw [v.fM c h] at z; cases z) (v.sm c u z), h, fun c h => (f c h).elim (v.fN c) fun z => none_of' v.sm z, v.fM, ho⟩
theorem Hse.rstep (h : Hse N M S H o m C CL ws ow pc vl ks od st) (r : RowA N H' o C CL ws ow pc vl ks od st') (k : ∀ c u, c ≠ o → H c = some u → H' c = some u) : Hse N M S H' o m C CL ws ow pc vl ks od st' :=
  ⟨r, h.md.kp fun c u hc z => k c u (fun e => hc.elim (fun hm => h.nm _ h.row.own (e ▸ hm)) fun hm => h.ns _ h.row.own (e ▸ hm)) z, h.nm, h.ns, h.ms, (fun c hc z => by
    obtain ⟨u, hu⟩ := Option.ne_none_iff_exists'.mp (h.ld c hc)
    rw [k c u (fun e => hc.elim (fun hm => h.nm _ h.row.own (e ▸ hm)) fun hm => h.ns _ h.row.own (e ▸ hm)) hu] at z
    cases z), h.bg, h.ne⟩
theorem I1.nks (v : I1 C CL ws S0 H o m N M S ow pc vl ks od st) : ks.Nodup := by
  obtain ⟨NB, fs, rb, _⟩ := v.hs.row.b
  exact rb.kr.imp fun h => Nat.ne_of_lt h
/-- a worth put in both -/
theorem Hse.putted {H8 H9 : Hp} {i j : Nat} {x : Int} {y : Addr} (h : Hse N M S H o m C CL ws ow pc vl ks od st) (hx : -big30 ≤ x ∧ x ≤ big30) (r : RowA N' H8 o C CL ws (ow ++ [i]) (pc ++ [j]) (vl ++ [x]) (ks ++ [ow.length + 1]) od' st') (k3 : ∀ c u, ¬ N c → H c = some u → H8 c = some u) (f3 : ∀ c, N' c → N c ∨ H c = none)
    (md9 : MdlR M (fun c => S c ∨ c = y) H9 m ws (ow ++ [i]) (pc ++ [j]) (vl ++ [x]) (ks ++ [ow.length + 1])) (ey0 : H8 y = none) (ey1 : H9 y ≠ none) (k9 : ∀ c u, ¬ M c → H8 c = some u → H9 c = some u) (kt9 : KT H8 H9) (nn9 : ∀ c, H8 c ≠ none → H9 c ≠ none) : Hse N' M (fun c => S c ∨ c = y) H9 o m C CL ws (ow ++ [i]) (pc ++ [j]) (vl ++ [x]) (ks ++ [ow.length + 1]) od' st' := by
  have ld8 : ∀ c, (M c ∨ S c) → H8 c ≠ none := fun c hc z => by
    obtain ⟨u, hu⟩ := Option.ne_none_iff_exists'.mp (h.ld c hc)
    rw [k3 c u (fun e => hc.elim (h.nm c e) (h.ns c e)) hu] at z
    cases z
  have nm' : ∀ c, N' c → ¬ M c := fun c e hm => (f3 c e).elim (fun e => h.nm c e hm) (h.ld c (.inl hm))
  refine ⟨r.kp (fun c u hc z => k9 c u (nm' c hc) z) kt9, md9, nm', fun c e hx => ?_, fun c h1 h2 => h2.elim (h.ms c h1) fun e => ld8 c (.inl h1) (by rw [e]; exact ey0), fun c hc => ?_, ⟨h.bg.w, fun z hz => ?_⟩, fun z => h.ne (List.append_eq_nil_iff.mp z).1⟩
  · exact hx.elim (fun hm => (f3 c e).elim (fun e => h.ns c e hm) (h.ld c (.inr hm))) fun e2 => (r.laid c e).ne (by rw [e2]; exact ey0)
  · exact hc.elim (fun e => nn9 c (ld8 c (.inl e))) fun e => e.elim (fun e => nn9 c (ld8 c (.inr e))) fun e => by rw [e]; exact ey1
  · exact (List.mem_append.mp hz).elim (h.bg.v z) fun e => by
      cases List.mem_singleton.mp e
      exact hx
end
theorem lens_one (ws : List Int) (ow pc : List Nat) (vl : List Int) (i : Nat) : ((lensN ws ow pc vl [i]).map fun n : Nat => (n : Int)).sum = (ws.length : Nat) := by
  have e : ∀ q, (bxT ws ow pc vl [i] q).length = 1 := fun q => rfl
  unfold lensN
  have go : ∀ l : List Nat, (((l.map fun q => (bxT ws ow pc vl [i] q).length)).map fun n : Nat => (n : Int)).sum = (l.length : Nat) := by
    intro l
    induction l with
    | nil => rfl
    | cons x l ih =>
      rw [List.map_cons, List.map_cons, List.sum_cons, ih, e, List.length_cons]
      omega
  rw [go, List.length_range]
section
variable {P : Program} {w : World} {K : PySem.W.Frag} {mg : Str → Option Value} {base : Heap} {C CL : Addr}
def spLaw (K : PySem.W.Frag) : Sp := fun vs H Q _ => ∃ (a : Addr) (ns : List Int), vs = [.ref a] ∧ SqL K H a (ns.map V.int) ∧ ns.length ≤ 63 ∧ ∀ H', Q (.bl true) H'
theorem ok_law {fP : Addr} {fdP : FuncData} (T : Txt K mg) (OC : RowC K C) {f : Addr} {fd : FuncData} (F : Fun K "law" "law" s_law f fd) (cP : mg "Boxed" = some (.ref C)) (M_Boxed : Mk K C fP) (B_Boxed : Binds K fdP ["self", "worths"] []) (G_Boxed : FnOk P w K mg base CX0 4 fP fdP ["self", "worths"] (spInitA C CL))
    (c__law_cell_at : CalG P w K mg base 1 "_law_cell_at" (Gd.spCell K)) (c__law_box : CalG P w K mg base 1 "_law_box" spBoxD) (c__law_take : CalG P w K mg base 1 "_law_take" spTakeD) (c__law_worths : CalG P w K mg base 3 "_law_worths" spWts) (c__law_model : CalG P w K mg base 1 "_law_model" spModelR) (c__law_put : CalG P w K mg base 3 "_law_put" (spPw C CL)) (c__law_written : CalG P w K mg base 1 "_law_written" spWritten) (c__law_one_of : CalG P w K mg base 2 "_law_one_of" spOneOf) (c__law_let_go : CalG P w K mg base 11 "_law_let_go" (spLg C CL)) (c__law_asks_refused : CalG P w K mg base 11 "_law_asks_refused" (spAr C CL)) (c__law_told : CalG P w K mg base 9 "_law_told" (spToldA C CL)) (m_put : Met P w K mg base 22 C "put" (spPut C CL) []) (m_in_order : Met P w K mg base 1 C "in_order" (spOrd C CL) []) (m_row : Met P w K mg base 7 C "row" (spRow C CL) []) (m_room : Met P w K mg base 1 C "room" (spRoomN C CL) []) : FnG P w K mg base CX0 25 f fd ["_law_script"] (spLaw K) := by
  refine okG F sc_law (fun vs H Q E h => ?_) (fun cdv A outer s H vs Q E hG hr h => ?_)
  · obtain ⟨a, ns, rfl, _⟩ := h
    rfl
  · obtain ⟨a, ns, rfl, hS, hl, q⟩ := h
    refine ⟨_, (pss_cons (ps_set (i := 1) sc_law.nd rfl (Or.inl rfl) (pe_g c__law_worths hG (hr.mono (by decide)) (by rfl) (pa_cons (pe_g c__law_box hG (hr.mono (by decide)) (by rfl) (pa_cons (pe_g c__law_cell_at hG (hr.mono (by decide)) (by rfl) (pa_cons (pv 0) (pa_cons pe_int pa_nil))) pa_nil)) pa_nil)))
      (pss_cons (ps_set (i := 2) sc_law.nd rfl (Or.inl rfl) (pe_make M_Boxed G_Boxed (hr.mono (by decide)) rfl cP B_Boxed .nil pass0 (pa_cons (pe_callTy call_list_of (by rfl) T.t_list boot_list_ (pa_cons (pv 1) pa_nil)) pa_nil)))
      (pss_cons (ps_set (i := 3) sc_law.nd rfl (Or.inl rfl) (pe_g c__law_model hG (hr.mono (by decide)) (by rfl) (pa_cons (pv 1) pa_nil)))
      (pss_cons (ps_set (i := 4) sc_law.nd rfl (Or.inl rfl) (pe_callB call_len (by rfl) T.b_len boot_len_ (pa_cons (pv 1) pa_nil)))
      (pss_cons (ps_for PassesOwn.never rfl (pi_range2 rfl T.b_range (pa_cons pe_int (pa_cons (pe_callB (call_max2 rfl) (by rfl) T.b_max boot_max_ (pa_cons pe_int (pa_cons (pe_callB (call_min2 rfl) (by rfl) T.b_min boot_min_ (pa_cons pe_int (pa_cons (pe_callB call_len (by rfl) T.b_len boot_len_ (pa_cons (pv 0) pa_nil)) pa_nil))) pa_nil))) pa_nil))) (pg_name (i := 5) sc_law.nd rfl (Or.inl rfl))
          (pss_cons (ps_asg (pe_g c__law_put hG (hr.mono (by decide)) (by rfl) (pa_cons (pe_g c__law_box hG (hr.mono (by decide)) (by rfl) (pa_cons (pe_g c__law_cell_at hG (hr.mono (by decide)) (by rfl) (pa_cons (pv 0) (pa_cons (pv 5) pa_nil))) pa_nil)) (pa_cons (pv 3) (pa_cons (pv 4) pa_nil)))) (pg_tup (by rfl) (pgs_cons (pg_name (i := 6) sc_law.nd rfl (Or.inl rfl)) (pgs_cons (pg_name (i := 7) sc_law.nd rfl (Or.inl rfl)) (pgs_cons (pg_name (i := 8) sc_law.nd rfl (Or.inl rfl)) pgs_nil)))))
          (pss_cons (ps_expr (pe_mt m_put hr (by decide) (pv 2) (pa_cons (pv 6) (pa_cons (pv 7) (pa_cons (pv 8) pa_nil)))))
          (pss_one (ps_expr (pe_g c__law_written hG (hr.mono (by decide)) (by rfl) (pa_cons (pv 3) (pa_cons (pv 6) (pa_cons (pv 7) (pa_cons (pv 8) pa_nil))))))))))
      (pss_cons (ps_set (i := 9) sc_law.nd rfl (Or.inl rfl) (pe_g c__law_box hG (hr.mono (by decide)) (by rfl) (pa_cons (pe_g c__law_cell_at hG (hr.mono (by decide)) (by rfl) (pa_cons (pv 0) (pa_cons pe_int pa_nil))) pa_nil)))
      (pss_cons (ps_while PassesOwn.never (pt_cmpR op_gt (pe_callB call_len (by rfl) T.b_len boot_len_ (pa_cons (pe_dget (hu_of hr) (pv 3) pe_str (fun _ _ => rfl)) pa_nil)) pe_int (nomark _))
          (pss_cons (ps_set (i := 10) sc_law.nd rfl (Or.inl rfl) (pe_mt0 m_in_order hr (by decide) (pv 2)))
          (pss_cons (ps_set (i := 6) sc_law.nd rfl (Or.inl rfl) (pe_ix ix_list (pe_lst (pa_cons (pe_ix ix_list (pv 10) (pe_g c__law_take hG (hr.mono (by decide)) (by rfl) (pa_cons (pv 9) (pa_cons (pe_callB call_len (by rfl) T.b_len boot_len_ (pa_cons (pv 10) pa_nil)) pa_nil))) (fun _ _ => rfl)) (pa_cons (pe_ix ix_list (pv 10) pe_int (fun _ _ => rfl)) (pa_cons (pe_ix ix_list (pv 10) (pe_un un_neg pe_int) (fun _ _ => rfl)) pa_nil)))) (pe_g c__law_take hG (hr.mono (by decide)) (by rfl) (pa_cons (pv 9) (pa_cons pe_int pa_nil))) (fun _ _ => rfl)))
          (pss_cons (ps_if (pt_not (pt_val (pe_g c__law_let_go hG (hr.mono (by decide)) (by rfl) (pa_cons (pv 2) (pa_cons (pv 3) (pa_cons (pv 6) pa_nil))))))
              (pss_one (ps_ret pe_bl)) pss_nil)
          (pss_cons (ps_set (i := 11) sc_law.nd rfl (Or.inl rfl) (pe_g c__law_one_of hG (hr.mono (by decide)) (by rfl) (pa_cons (pv 9) (pa_cons (pe_dget (hu_of hr) (pv 3) pe_str (fun _ _ => rfl)) pa_nil))))
          (pss_cons (ps_if (PW.pt (pw_or (pt_cmpR (op_neD (hu64 hr)) (pe_mt m_row hr (by decide) (pv 2) (pa_cons (pv 11) pa_nil)) (pe_ix ix_list (pe_dget (hu_of hr) (pv 3) pe_str (fun _ _ => rfl)) (pv 11) (fun _ _ => rfl)) (nomark _)) (pw_or1 (pt_not (pt_val (pe_g c__law_asks_refused hG (hr.mono (by decide)) (by rfl) (pa_cons (pv 9) (pa_cons (pv 2) (pa_cons (pv 4) pa_nil)))))))))
              (pss_one (ps_ret pe_bl)) pss_nil)
          (pss_one (ps_if (PW.pt (pw_and (pt_cmpR op_eq (pe_g c__law_take hG (hr.mono (by decide)) (by rfl) (pa_cons (pv 9) (pa_cons pe_int pa_nil))) pe_int (nomark _)) (pw_and1 (pt_cmpR op_lt (pe_callB call_len (by rfl) T.b_len boot_len_ (pa_cons (pe_dget (hu_of hr) (pv 3) pe_str (fun _ _ => rfl)) pa_nil)) pe_int (nomark _)))))
              (pss_cons (ps_asg (pe_g c__law_put hG (hr.mono (by decide)) (by rfl) (pa_cons (pv 9) (pa_cons (pv 3) (pa_cons (pv 4) pa_nil)))) (pg_tup (by rfl) (pgs_cons (pg_name (i := 6) sc_law.nd rfl (Or.inl rfl)) (pgs_cons (pg_name (i := 7) sc_law.nd rfl (Or.inl rfl)) (pgs_cons (pg_name (i := 8) sc_law.nd rfl (Or.inl rfl)) pgs_nil)))))
              (pss_cons (ps_expr (pe_mt m_put hr (by decide) (pv 2) (pa_cons (pv 6) (pa_cons (pv 7) (pa_cons (pv 8) pa_nil)))))
              (pss_one (ps_expr (pe_g c__law_written hG (hr.mono (by decide)) (by rfl) (pa_cons (pv 3) (pa_cons (pv 6) (pa_cons (pv 7) (pa_cons (pv 8) pa_nil))))))))) pss_nil))))))))
      (pss_cons (ps_set (i := 6) sc_law.nd rfl (Or.inl rfl) (pe_ix ix_list (pe_dget (hu_of hr) (pv 3) pe_str (fun _ _ => rfl)) pe_int (fun _ _ => rfl)))
      (pss_cons (ps_if (PW.pt (pw_or (pt_cmpR (op_neD (hu64 hr)) (pe_g c__law_told hG (hr.mono (by decide)) (by rfl) (pa_cons (pv 2) (pa_cons (pv 6) pa_nil))) (pe_lst (pa_cons pe_str (pa_cons (pv 6) pa_nil))) (nomark _)) (pw_or1 (pt_cmpR op_ne (pe_mt0 m_room hr (by decide) (pv 2)) (pv 4) (nomark _)))))
          (pss_one (ps_ret pe_bl)) pss_nil)
      (pss_one (ps_ret (pe_and (pe_cmpR (op_eqD (hu64 hr)) (pe_mt m_row hr (by decide) (pv 2) (pa_cons (pv 6) pa_nil)) (pe_ix ix_list (pe_dget (hu_of hr) (pv 3) pe_str (fun _ _ => rfl)) (pv 6) (fun _ _ => rfl)) (nomark _)) (pe_one (pe_cmpR (op_eqD (hu64 hr)) (pe_mt0 m_in_order hr (by decide) (pv 2)) (pe_lst (pa_cons (pv 6) pa_nil)) (nomark _))))))))))))))), ?_⟩
    refine ⟨_, rfl, a, ns, 0, rfl, hS, hl, by decide, fun z => ⟨z, rfl, fun b0 H1 hb0 hB1 kb0 => ?_⟩⟩
    have s1 : Same H H1 := fun c v z => by rw [kb0 c (ne_of_none z hb0)]; exact z
    refine ⟨b0, 0, rfl, hB1, by decide, fun aw ws H2 haw eaw w1 w2 hw hB2 k2 => ?_⟩
    have s2 : Same H H2 := fun c v z => k2 _ _ (ne_of_none z hb0) (s1 _ _ z)
    clear hB2 k2 hB1 kb0 s1 hb0
    refine ⟨_, rfl, aw, _, rfl, .inl (SqL.of eaw), fun hd hhd => ?_⟩
    have s3 := same_new (o := .lst (ws.map V.int)) hhd
    have ehd : (upd H2 hd (.lst (ws.map V.int))) hd = some (.lst (ws.map V.int)) := upd_same
    generalize upd H2 hd (.lst (ws.map V.int)) = H3 at *
    have eaw3 := s3 _ _ eaw
    intro o du n1 n2 ne1
    have u4 := fun ob => up2_same (C := C) (ob := ob) n1 n2
    refine ⟨o, du, hd, ws, rfl, upd_same, .inl (u4 _ _ _ ehd), w1, w2, hw, fun H5 N1 r5 k5 f5 => ?_⟩
    have s5 : Same H3 H5 := fun c v z => k5 c v (ne_of_none z n1) (u4 _ _ _ z)
    have f5 : ∀ c, N1 c → H3 c = none := fun c h => by
      rcases f5 c h with rfl | z
      · exact n1
      · exact upd_none (upd_none z)
    clear k5 u4 n1 n2 ne1
    refine ⟨rfl, ?_⟩
    refine ⟨_, rfl, aw, ws, rfl, s5 _ _ eaw3, fun m H6 M1 S1 md f1 x1 s6 => ?_⟩
    have sz : 1 ≤ ws.length ∧ ws.length ≤ 16 := ⟨w1, w2⟩
    have l5 : ∀ c, N1 c → H5 c ≠ none := fun c h => (r5.laid c h).ne
    have v6 : I1 C CL ws H2 H6 o m N1 M1 S1 [] [] [] [0] [0] 0 := ⟨(s3.trans s5).trans s6, ⟨r5.same s6, md, fun c h1 h2 => l5 c h1 (f1 c (.inl h2)).1, fun c h1 h2 => l5 c h1 (f1 c (.inr h2)).1, x1, fun c h => (f1 c h).2, ⟨hw, fun x hx => by cases hx⟩, by simp⟩, fun c h => none_of' s3 (f5 c h), fun c h => none_of' (s3.trans s5) (f1 c (.inl h)).1, rfl⟩
    have hS2 := s2.seq hS
    clear md f1 x1 s6 l5 r5 f5 s5 ehd s3 hhd eaw3
    refine ⟨_, rfl, .ref aw, _, rfl, .inl ⟨_, SqL.of (v6.sm _ _ eaw), rfl⟩, ?_⟩
    rw [List.length_map]
    refine ⟨_, rfl, .ref a, _, rfl, .inl ⟨_, v6.sm.seq hS2, rfl⟩, _, _, rfl, _, _, rfl, _, _, rfl, ?_, ?_⟩
    · refine ⟨by decide, by decide, ?_, ?_⟩ <;> split <;> split <;> omega
    refine for_range (fun k σ H' => ∃ (N S : Addr → Prop) (ow pc : List Nat) (vl : List Int) (ks od : List Nat) (st : Int) (y5 y6 y7 y8 : Option V), σ = [some (.ref a), some (.ref aw), some (.ref o), some (.ref m), some (num ws.length), y5, y6, y7, y8, none, none, none] ∧ I1 C CL ws H2 H' o m N M1 S ow pc vl ks od st ∧ ow.length ≤ k)
      ⟨_, _, _, _, _, _, _, _, none, none, none, none, rfl, v6, Nat.zero_le _⟩ (fun k σ H7 hk hP => ?_) (fun σ H7 hP => ?_)
    · obtain ⟨N, S, ow, pc, vl, ks, od, st, y5, y6, y7, y8, rfl, v7, owk⟩ := hP
      have hk29 : k < 29 := by
        revert hk
        split <;> split <;> omega
      clear hk v6
      refine ⟨_, rfl, _, rfl, a, ns, _, rfl, v7.sm.seq hS2, hl, by omega, fun z => ⟨z, rfl, fun b H8 hb hB kb => ?_⟩⟩
      have fb : H2 b = none := none_of' v7.sm hb
      have s78 : Same H7 H8 := fun c u z => by rw [kb c (ne_of_none z hb)]; exact z
      have nb := v7.nb hb
      have v8 := v7.same s78
      refine ⟨_, rfl, _, rfl, N, M1, S, b, o, m, 0, ws, ow, pc, vl, ks, od, st, rfl, v8.hs, hB, by decide, nb.1, nb.2.1, nb.2.2, fun t0 H9 i pq wv hik hq hw1 hw2 ht0 et hB9 k9 => ?_⟩
      refine ⟨t0, _, rfl, SqT.of et, rfl, _, _, rfl, _, _, rfl, _, _, rfl, rfl, ?_⟩
      have v9 := v8.kb hB fb nb k9
      have ft := v9.hs.row.fit
      have lks := v9.hs.few
      have kl := v9.hs.row.kl
      have hi := kl i hik
      obtain ⟨dx, fs, e9, nl⟩ := v9.hs.row.ins
      refine ⟨_, rfl, o, dx, fs, rfl, e9, nl _ (by decide), _, rfl, _, rfl, _, rfl, N, o, ws, ow, pc, vl, ks, od, st, i, pq, wv, rfl, v9.hs.row, hi, hik, by omega, by omega, hq, hw1, hw2, fun H10 N' r10 k10 f10 => ?_⟩
      have md10 : MdlR M1 S H10 m ws ow pc vl ks := v9.hs.md.kp fun c u hc z => k10 _ _ (fun h => hc.elim (v9.hs.nm c h) (v9.hs.ns c h)) z
      refine ⟨_, rfl, _, rfl, _, rfl, _, rfl, M1, S, m, ws, ow, pc, vl, ks, i, pq, wv, rfl, md10, v9.hs.ms, ft, hi, hq, by omega, by omega, fun H11 y md11 ey0 ey1 k11 kt11 nn11 => ?_⟩
      have h11 := v9.hs.putted ⟨hw1, hw2⟩ r10 k10 f10 md11 ey0 ey1 k11 kt11 nn11
      exact ⟨N', _, _, _, _, _, _, _, _, _, _, _, rfl, v9.step h11 (by rw [v9.od_]; exact (odK_put hi hik kl).symm) (fun c u h1 h2 z => k11 _ _ h2 (k10 _ _ h1 z)) f10, by rw [List.length_append]; show ow.length + 1 ≤ _; omega⟩
    · obtain ⟨N, S, ow, pc, vl, ks, od, st, y5, y6, y7, y8, rfl, v7, owk⟩ := hP
      refine ⟨_, rfl, a, ns, 1, rfl, v7.sm.seq hS2, hl, by decide, fun z => ⟨z, rfl, fun b H8 hb hB kb => ?_⟩⟩
      have fb : H2 b = none := none_of' v7.sm hb
      have s78 : Same H7 H8 := fun c u z => by rw [kb c (ne_of_none z hb)]; exact z
      have nb := v7.nb hb
      have v8 := v7.same s78
      have few8 := v8.hs.row.fit.few
      have lks8 := v8.hs.few
      refine ⟨fun mea σ H' => ∃ (N S : Addr → Prop) (ow pc : List Nat) (vl : List Int) (ks od : List Nat) (st : Int) (y5 y6 y7 y8 y10 y11 : Option V), σ = [some (.ref a), some (.ref aw), some (.ref o), some (.ref m), some (num ws.length), y5, y6, y7, y8, some (.ref b), y10, y11] ∧ I1 C CL ws H2 H' o m N M1 S ow pc vl ks od st ∧ (¬ N b ∧ ¬ M1 b ∧ ¬ S b) ∧ BoxD H' b (50 * (200 - (mea : Nat) : Int)) ∧ mea = (39 - ow.length) + ks.length ∧ mea ≤ 200, ⟨_, N, S, ow, pc, vl, ks, od, st, _, _, _, _, none, none, rfl, v8, nb, hB.up (by omega), rfl, by omega⟩, ?_⟩
      clear v7 v8 nb hB kb s78 owk few8 lks8 hb
      clear H7 H8 N S ow pc vl ks od st
      rintro mea σ H8 ⟨N, S, ow, pc, vl, ks, od, st, y5, y6, y7, y8, y10, y11, rfl, v8, nb, hB, hmea, hm2⟩
      have ft := v8.hs.row.fit
      have few := ft.few
      have lks := v8.hs.few
      have kl := v8.hs.row.kl
      obtain ⟨odp, _⟩ := v8.hs.row.odl
      have odn := odp.length_eq
      obtain ⟨ma, rr, w_, d, kvs, as, h0, rfl, h1, hl0, hr', h2, h3, h4, m0, m1, m2, m3, m4, _⟩ := id v8.hs.md.ex
      refine ⟨_, rfl, m, _, rfl, dgs h0 rfl, .ref d, _, rfl, .inl ⟨_, SqL.of h4, rfl⟩, _, _, rfl, rfl, _, rfl, ite2 (fun hl2 => ?_) (fun hl2 => ?_)⟩
      · have h2k : 2 ≤ ks.length := by
          have := of_decide_eq_true hl2
          rw [List.length_map] at this
          omega
        clear hl2 h0 h1 hl0 hr' h2 h3 h4 m0 m1 m2 m3 m4
        refine ⟨_, fun σ' H'' z => z, ?_⟩
        obtain ⟨nb0, hnb0⟩ : ∃ n : Int, n = 50 * (200 - (mea : Nat) : Int) := ⟨_, rfl⟩
        rw [← hnb0] at hB
        have hnb1 : 0 ≤ nb0 ∧ nb0 ≤ 10000 := by omega
        -- the make
        obtain ⟨dx, fs, e8, nl⟩ := v8.hs.row.ins
        refine ⟨_, rfl, o, dx, fs, rfl, e8, nl _ (by decide), N, o, ws, ow, pc, vl, ks, od, st, rfl, v8.hs.row, fun ln H9 hln eln s9 => ?_⟩
        have v9 := v8.same s9
        have hB9 := hB.kp (H' := H9) fun u z => s9 _ _ z
        have lnb : ln ≠ b := hB.ne hln
        refine ⟨_, rfl, _, rfl, _, rfl, .ref ln, _, rfl, .inl ⟨_, SqL.of eln, rfl⟩, ?_⟩
        rw [List.length_map]
        refine ⟨b, (od.length : Nat), nb0, rfl, hB9, by omega, by omega, by omega, fun g H10 g0 g1 hB10 k10 => ?_⟩
        have fb2 : H2 b = none := fb
        have v10 := v9.kb hB9 fb nb fun c u hc z => (k10 c hc).trans z
        have eln10 : H10 ln = some (.lst (od.map num)) := (k10 ln lnb).trans eln
        obtain ⟨gi, hgi⟩ : ∃ gi, od[g.toNat]? = some gi := ⟨_, List.getElem?_eq_getElem (by omega)⟩
        obtain ⟨z0, hz0⟩ : ∃ z0, od[0]? = some z0 := ⟨_, List.getElem?_eq_getElem (by omega)⟩
        obtain ⟨od', zl, hod⟩ : ∃ od' zl, od = od' ++ [zl] := ⟨od.dropLast, od.getLast (fun e => by rw [e] at odn; have : ks.length = 0 := odn.symm; omega), (List.dropLast_concat_getLast _).symm⟩
        have hla : atI (od.map num) (-1) = some (num zl) := by
          rw [hod, List.map_append]
          exact atI_last _ _
        have hzl : zl ∈ od := by
          rw [hod]
          simp
        refine ⟨ln, _, _, num gi, rfl, rfl, SqL.of eln10, ?_, ?_⟩
        · rw [show g = ((g.toNat : Nat) : Int) by omega]
          exact atI_nat (by rw [List.getElem?_map, hgi]; rfl)
        refine ⟨_, rfl, ln, _, _, num z0, rfl, rfl, SqL.of eln10, atI_nat (j := 0) (by rw [List.getElem?_map, hz0]; rfl), _, rfl, 1, rfl, ln, _, _, num zl, rfl, rfl, SqL.of eln10, hla, (by show 3 ≤ sizeLine; decide), fun p3 hp3 => ?_⟩
        have s11 := same_new (o := .lst [num gi, num z0, num zl]) hp3
        have ep3 : (upd H10 p3 (.lst [num gi, num z0, num zl])) p3 = some (.lst [num gi, num z0, num zl]) := upd_same
        have v11 := v10.same s11
        have hB11 := hB10.kp (H' := upd H10 p3 (.lst [num gi, num z0, num zl])) fun u z => s11 _ _ z
        have p3b : p3 ≠ b := hB10.ne hp3
        generalize upd H10 p3 (.lst [num gi, num z0, num zl]) = H11 at *
        refine ⟨_, rfl, b, 3, nb0 + 1, rfl, hB11, by omega, by decide, by decide, fun g3 H12 c0 c1 hB12 k12 => ?_⟩
        have v12 := v11.kb hB11 fb nb fun c u hc z => (k12 c hc).trans z
        obtain ⟨i, hat, hio⟩ : ∃ i, atI [num gi, num z0, num zl] g3 = some (num i) ∧ i ∈ od := by
          rcases (by omega : g3 = 0 ∨ g3 = 1 ∨ g3 = 2) with rfl | rfl | rfl
          · exact ⟨gi, rfl, List.mem_of_getElem? hgi⟩
          · exact ⟨z0, rfl, List.mem_of_getElem? hz0⟩
          · exact ⟨zl, rfl, hzl⟩
        have hik : i ∈ ks := odp.mem_iff.mp hio
        refine ⟨p3, _, _, _, rfl, rfl, SqL.of ((k12 p3 p3b).trans ep3), hat, ?_⟩
        clear hat ep3 hp3 hzl hla hgi hz0 eln10 eln hln lnb p3b k12 k10 s11 s9 hB11 hB10 hB9 hB v11 v10 v9 v8 e8 nl hio hod
        -- let go
        refine ⟨_, rfl, _, rfl, _, rfl, N, M1, S, o, m, ws, ow, pc, vl, ks, od, st, i, rfl, v12.hs, v12.od_, hik, h2k, fun H13 N' hs13 k13 kt13 f13 => ⟨_, rfl, iteF ?_⟩⟩
        have nks := v12.nks
        have v13 : I1 C CL ws H2 H13 o m N' M1 S ow pc vl (ks.erase i) (od.erase i) st := v12.step hs13 (by rw [v12.od_]; exact (odK_go nks).symm) k13 f13
        have hB13 := hB12.kp (H' := H13) fun u z => k13 _ _ nb.1 nb.2.1 z
        have nb13 : ¬ N' b ∧ ¬ M1 b ∧ ¬ S b := ⟨(fun h => (f13 b h).elim nb.1 fun z => by
          obtain ⟨u, hu⟩ := hB12.some
          rw [hu] at z
          cases z), nb.2⟩
        have hkl : (ks.erase i).length = ks.length - 1 := List.length_erase_of_mem hik
        clear hs13 k13 kt13 f13 v12 hB12 nb hik
        obtain ⟨kk, hkk⟩ : ∃ kk, kk = ks.erase i := ⟨_, rfl⟩
        obtain ⟨oo, hoo⟩ : ∃ oo, oo = od.erase i := ⟨_, rfl⟩
        rw [← hkk, ← hoo] at v13
        rw [← hkk] at hkl
        clear hkk hoo odp odn
        have kl13 := v13.hs.row.kl
        -- one of them
        obtain ⟨ma, rr, w_, d, kvs, as, h0, rfl, h1, hl0, hr', h2, h3, h4, m0, m1, m2, m3, m4, _⟩ := id v13.hs.md.ex
        refine ⟨_, rfl, _, rfl, m, _, rfl, dgs h0 rfl, b, d, nb0 + 1 + 1, kk, rfl, hB13, by omega, h4, v13.hs.ne, by omega, fun one H14 hone hB14 k14 => ?_⟩
        have v14 := v13.kb hB13 fb nb13 k14
        have hol := kl13 one hone
        clear h0 h1 hl0 hr' h2 h3 h4 m0 m1 m2 m3 m4
        obtain ⟨dx, fs, e14, nl⟩ := v14.hs.row.ins
        refine ⟨_, rfl, o, dx, fs, rfl, e14, nl _ (by decide), _, rfl, N', o, ws, ow, pc, vl, kk, oo, st, one, rfl, v14.hs.row, hol, hone, fun y H15 hy ey r15 k15 => ?_⟩
        have bo : b ≠ o := fun e => nb13.1 (e ▸ v14.hs.row.own)
        have v15 : I1 C CL ws H2 H15 o m N' M1 S ow pc vl kk oo _ := v14.step (v14.hs.rstep r15 k15) v14.od_ (fun c u h1 h2 z => k15 c u (fun e => h1 (e ▸ v14.hs.row.own)) z) fun c h => .inl h
        have hB15 := hB14.kp (H' := H15) fun u z => k15 _ _ bo z
        obtain ⟨ma, rr, w_, d, kvs, as, h0, rfl, h1, hl0, hr', h2, h3, h4, m0, m1, m2, m3, m4, _⟩ := id v15.hs.md.ex
        obtain ⟨xi, hxi⟩ : ∃ xi, as[one]? = some xi := ⟨as[one]'(by omega), List.getElem?_eq_getElem (by omega)⟩
        obtain ⟨sx, exi⟩ := hr' _ xi hxi
        refine ⟨_, rfl, m, _, rfl, dgs h0 rfl, _, rfl, ma, _, _, .ref xi, rfl, rfl, SqL.of h1, atI_nat (by rw [List.getElem?_map, hxi]; rfl), _, _, .lst (SqL.of ey) (dpInts _), .lst (SqL.of exi) (dpInts _), sh_ints _, sh_ints _, ?_⟩
        rw [PySem.SeqAt.eqv_refl _ (can_ints _)]
        refine ⟨_, rfl, iteF ?_⟩
        clear h0 h1 hl0 hr' h2 h3 h4 m0 m1 m2 m3 m4 hxi sx exi
        obtain ⟨NB, fsb, rb, sbN⟩ := v15.hs.row.b
        refine ⟨_, rfl, _, rfl, _, rfl, NB, b, o, nb0 + 1 + 1 + 2, ws.length, ow, pc, kk, _, fsb, rfl, rb, hB15, by omega, fun h => nb13.1 (sbN _ h), v15.hs.ne, by omega, few, fun H16 hB16 k16 => ⟨_, rfl, iteF ?_⟩⟩
        have v16 := v15.kb hB15 fb nb13 k16
        clear v15 v14 v13 hB15 hB14 hB13 k16 k15 k14 rb sbN ey hy r15 e14 nl
        -- perhaps a put
        refine ⟨_, rfl, b, 4, nb0 + 1 + 1 + 2 + 20, rfl, hB16, by omega, by decide, by decide, fun g4 H17 _ _ hB17 k17 => ⟨rfl, _, rfl, ite2 (fun _ => ?_) (fun _ => ?_)⟩⟩
        rotate_left
        · have v17 := v16.kb hB16 fb nb13 fun c u hc z => (k17 c hc).trans z
          refine ⟨(39 - ow.length) + kk.length, by omega, N', S, ow, pc, vl, kk, oo, _, _, _, _, _, _, _, rfl, v17, nb13, hB17.up ?_, rfl, by omega⟩
          omega
        have v17 := v16.kb hB16 fb nb13 fun c u hc z => (k17 c hc).trans z
        obtain ⟨ma, rr, w_, d, kvs, as, h0, rfl, h1, hl0, hr', h2, h3, h4, m0, m1, m2, m3, m4, _⟩ := id v17.hs.md.ex
        refine ⟨_, rfl, m, _, rfl, dgs h0 rfl, .ref ma, _, rfl, .inl ⟨_, SqL.of h1, rfl⟩, _, _, rfl, rfl, _, rfl, ite2 (fun h40 => ?_) (fun _ => ?_)⟩
        rotate_left
        · refine ⟨(39 - ow.length) + kk.length, by omega, N', S, ow, pc, vl, kk, oo, _, _, _, _, _, _, _, rfl, v17, nb13, hB17.up ?_, rfl, by omega⟩
          omega
        have ow38 : ow.length < 39 := by
          have := of_decide_eq_true h40
          rw [List.length_map, hl0] at this
          omega
        clear h40 h0 h1 hl0 hr' h2 h3 h4 m0 m1 m2 m3 m4
        refine ⟨_, rfl, _, rfl, _, rfl, N', M1, S, b, o, m, _, ws, ow, pc, vl, kk, oo, _, rfl, v17.hs, hB17, by omega, nb13.1, nb13.2.1, nb13.2.2, fun t0 H18 i2 pq wv hik2 hq hw1 hw2 ht0 et hB18 k18 => ?_⟩
        refine ⟨t0, _, rfl, SqT.of et, rfl, _, _, rfl, _, _, rfl, _, _, rfl, rfl, ?_⟩
        have v18 := v17.kb hB17 fb nb13 k18
        have ft := v18.hs.row.fit
        have hi2 := kl13 i2 hik2
        obtain ⟨dx, fs, e18, nl⟩ := v18.hs.row.ins
        refine ⟨_, rfl, o, dx, fs, rfl, e18, nl _ (by decide), _, rfl, _, rfl, _, rfl, N', o, ws, ow, pc, vl, kk, oo, _, i2, pq, wv, rfl, v18.hs.row, hi2, hik2, by omega, by omega, hq, hw1, hw2, fun H19 N'' r19 k19 f19 => ?_⟩
        have md19 : MdlR M1 S H19 m ws ow pc vl kk := v18.hs.md.kp fun c u hc z => k19 _ _ (fun h => hc.elim (v18.hs.nm c h) (v18.hs.ns c h)) z
        refine ⟨_, rfl, _, rfl, _, rfl, _, rfl, M1, S, m, ws, ow, pc, vl, kk, i2, pq, wv, rfl, md19, v18.hs.ms, ft, hi2, hq, by omega, by omega, fun H20 y2 md20 ey0 ey1 k20 kt20 nn20 => ?_⟩
        have h20 := v18.hs.putted ⟨hw1, hw2⟩ r19 k19 f19 md20 ey0 ey1 k20 kt20 nn20
        have v20 := v18.step h20 (by rw [v18.od_]; exact (odK_put hi2 hik2 kl13).symm) (fun c u h1 h2 z => k20 _ _ h2 (k19 _ _ h1 z)) f19
        have b18 : H18 b ≠ none := by
          obtain ⟨u, hu⟩ := hB18.some
          rw [hu]
          simp
        have b19 : H19 b ≠ none := by
          obtain ⟨u, hu⟩ := hB18.some
          rw [k19 _ _ nb13.1 hu]
          simp
        refine ⟨(39 - (ow ++ [i2]).length) + (kk ++ [ow.length + 1]).length, ?_, N'', _, _, _, _, _, _, _, _, _, _, _, _, _, rfl, v20, ⟨fun h => (f19 b h).elim nb13.1 b18, nb13.2.1, fun h => h.elim nb13.2.2 fun e => b19 (e ▸ ey0)⟩, (hB18.kp fun u z => k20 _ _ nb13.2.1 (k19 _ _ nb13.1 z)).up ?_, rfl, ?_⟩
        · rw [List.length_append, List.length_append]
          show (39 - (ow.length + 1)) + (kk.length + 1) < mea
          omega
        · rw [List.length_append, List.length_append]
          show _ ≤ 50 * (200 - (((39 - (ow.length + 1)) + (kk.length + 1) : Nat) : Int))
          omega
        · rw [List.length_append, List.length_append]
          show (39 - (ow.length + 1)) + (kk.length + 1) ≤ 200
          omega
      · have hk1 : ks.length = 1 := by
          have h := of_decide_eq_false (Bool.eq_false_iff.mpr hl2)
          rw [List.length_map] at h
          have : ks.length ≠ 0 := fun z => v8.hs.ne (List.eq_nil_of_length_eq_zero z)
          omega
        obtain ⟨i, rfl⟩ : ∃ i, ks = [i] := List.length_eq_one_iff.mp hk1
        have hod : od = [i] := List.perm_singleton.mp odp
        subst hod
        have hi := kl i (List.mem_singleton.mpr rfl)
        refine ⟨_, rfl, m, _, rfl, dgs h0 rfl, d, _, _, num i, rfl, rfl, SqL.of h4, rfl, ?_⟩
        obtain ⟨NB, fsb, rb, sbN⟩ := v8.hs.row.b
        refine ⟨_, rfl, _, rfl, NB, o, ws.length, ow, pc, st, fsb, i, rfl, rb, hi, fun l H9 hl9 el s9 => ?_⟩
        refine ⟨_, rfl, (by show 2 ≤ sizeLine; decide), fun l2 hl2' => ?_⟩
        have s10 := same_new (o := .lst [.str "alone", num i]) hl2'
        have el2 : (upd H9 l2 (.lst [.str "alone", num i])) l2 = some (.lst [.str "alone", num i]) := upd_same
        generalize upd H9 l2 (.lst [.str "alone", num i]) = H10 at *
        have sok : PyData.strOk (Str.ofString "alone") = true := by decide +kernel
        have shm : SeqAt.shaped (.list [.str "alone", .int ((i : Nat) : Int)]) = true := by
          unfold SeqAt.shaped
          simp [PyData.canLay0, PyData.canLayAll0, PyData.depth, PyData.depthAll, sok]
        refine ⟨.list [.str "alone", .int (i : Nat)], .list [.str "alone", .int (i : Nat)], .lst (SqL.of (s10 _ _ el)) (.cons (.str _) (.cons (.int _) .nil)), .lst (SqL.of el2) (.cons (.str _) (.cons (.int _) .nil)), shm, shm, ?_⟩
        rw [PySem.SeqAt.eqv_refl _ (by simp [PyData.canLay0, PyData.canLayAll0, sok])]
        refine ⟨_, rfl, iteF ?_⟩
        have v10 := (v8.same s9).same s10
        obtain ⟨dx, fs, e10, nl⟩ := v10.hs.row.ins
        refine ⟨_, rfl, o, dx, fs, rfl, e10, nl _ (by decide), N, o, ws, ow, pc, vl, [i], [i], st, rfl, v10.hs.row, fun H11 s11 => ?_⟩
        rw [lens_one]
        refine ⟨_, rfl, rfl, _, rfl, ifSame ?_⟩
        have v11 := v10.same s11
        obtain ⟨dx, fs, e11, nl⟩ := v11.hs.row.ins
        refine ⟨_, rfl, o, dx, fs, rfl, e11, nl _ (by decide), _, rfl, N, o, ws, ow, pc, vl, [i], [i], st, i, rfl, v11.hs.row, hi, List.mem_singleton.mpr rfl, fun y H12 hy ey r12 k12 => ?_⟩
        have v12 : I1 C CL ws H2 H12 o m N M1 S ow pc vl [i] [i] _ := v11.step (v11.hs.rstep r12 k12) v11.od_ (fun c u h1 h2 z => k12 c u (fun e => h1 (e ▸ v11.hs.row.own)) z) fun c h => .inl h
        clear h0 h1 hl0 hr' h2 h3 h4 m0 m1 m2 m3 m4
        obtain ⟨ma, rr, w_, d, kvs, as, h0, rfl, h1, hl0, hr', h2, h3, h4, m0, m1, m2, m3, m4, _⟩ := id v12.hs.md.ex
        obtain ⟨xi, hxi⟩ : ∃ xi, as[i]? = some xi := ⟨as[i]'(by omega), List.getElem?_eq_getElem (by omega)⟩
        obtain ⟨sx, exi⟩ := hr' _ xi hxi
        refine ⟨_, rfl, m, _, rfl, dgs h0 rfl, _, rfl, ma, _, _, .ref xi, rfl, rfl, SqL.of h1, atI_nat (by rw [List.getElem?_map, hxi]; rfl), _, _, .lst (SqL.of ey) (dpInts _), .lst (SqL.of exi) (dpInts _), sh_ints _, sh_ints _, ?_⟩
        rw [PySem.SeqAt.eqv_refl _ (can_ints _)]
        refine ⟨_, rfl, iteT ?_⟩
        obtain ⟨dx, fs, e12, nl⟩ := v12.hs.row.ins
        refine ⟨_, rfl, o, dx, fs, rfl, e12, nl _ (by decide), N, o, ws, ow, pc, vl, [i], [i], _, rfl, v12.hs.row, fun z H13 hz ez s13 => ?_⟩
        refine ⟨_, rfl, (by show 1 ≤ sizeLine; decide), fun l3 hl3 => ?_⟩
        have s14 := same_new (o := .lst [num i]) hl3
        have el3 : (upd H13 l3 (.lst [num i])) l3 = some (.lst [num i]) := upd_same
        refine ⟨_, _, .lst (SqL.of (s14 _ _ ez)) (dpInts [((i : Nat) : Int)]), .lst (SqL.of el3) (dpInts [((i : Nat) : Int)]), sh_ints _, sh_ints _, ?_⟩
        rw [PySem.SeqAt.eqv_refl _ (can_ints _)]
        exact q _
end
end K46
/-! The head by one run of the top in the kernel: what the end needs of the heap is looked at there, nothing is written out. -/
namespace Gh
open PySem PySem.Spec PyProof.Rows L2
/-- what the looks o tell of the objects at as -/
def hook {α : Type} (as : List Addr) (o : PySem.W.Frag → α) (v : α) : PySem.W.Hook where
  α := α
  obs := fun s => o (He.frG s.heap.get? as)
  val := fun _ => v
  says := fun _ h => ∃ K : PySem.W.Frag, K.In h ∧ o K = v
  of := fun _ _ e => ⟨_, He.frG_in, e⟩
  keeps := fun _ _ _ ⟨K, hK, c⟩ k => ⟨K, PySem.W.Frag.In.keeps hK k, c⟩
def ob {α : Type} (as : List Addr) (o : PySem.W.Frag → α) (s : PySem.W.SharedT) : α := o (He.frG (HandSHeadRun.getT s) as)
theorem ob_eq {α : Type} (as : List Addr) (o : PySem.W.Frag → α) (v : α) (s : PySem.W.SharedT) : ob as o s = (hook as o v).obs s.abs := by
  have e : HandSHeadRun.getT s = s.abs.heap.get? := funext (HandSHeadRun.getT_eq s)
  unfold ob
  rw [e]
  rfl
/-- a def as it lies there -/
abbrev FnW : Type := Option (Str × Str × Arguments × FuncBody × Scope × Addr × List Str × Addr)
def fW (K : PySem.W.Frag) (a : Addr) : FnW := match K.lookup a with
  | some ⟨.type c, _, .func fd, _⟩ => (match decide (c = "function") with
    | true => (match fd.defaults with
      | .none => some (fd.name, fd.qualname, fd.params, fd.body, fd.scope, fd.globals, fd.closure.map (·.1), fd.builtins)
      | _ => none)
    | false => none)
  | _ => none
def fV (n q : Str) (st : Stmt) (cl : List Str) : FnW := some (n, q, defArgs st, .stmts (defBody st), defScope st, mainGlobals, cl, builtinsNs)
def cdOf (K : PySem.W.Frag) (a : Addr) : Value := match K.lookup a with
  | some ⟨_, _, .func fd, _⟩ => fd.code
  | _ => .none
theorem fun_of {K : PySem.W.Frag} {a : Addr} {n q : Str} {st : Stmt} (e : fW K a = fV n q st []) (c : PySem.W.codeIn K (cdOf K a) q = true) :
    ∃ (od an : Option Addr) (kV dc pm cd ct : Value) (sl : Array (Option Value)), K.lookup a = some ⟨.type "function", od, .func (PySem.W.fnOf n q (defArgs st) (defBody st) (defScope st) .none kV dc pm an cd ct), sl⟩ ∧ PySem.W.codeIn K cd q = true := by
  unfold fW fV at e
  unfold cdOf at c
  cases h : K.lookup a with
  | none => rw [h] at e; cases e
  | some o =>
    obtain ⟨oc, od, dt, sl⟩ := o
    rw [h] at e c
    cases oc with
    | type t =>
      cases dt with
      | func fd =>
        obtain ⟨n1, n2, n3, n4, n5, n6, n7, n8, n9, n10, n11, n12, n13, n14, n15⟩ := fd
        dsimp only at e c
        by_cases ht : t = "function"
        · rw [decide_eq_true ht] at e
          dsimp only at e
          cases n8 with
          | none =>
            dsimp only at e
            simp only [Option.some.injEq, Prod.mk.injEq, List.map_eq_nil_iff] at e
            obtain ⟨h1, h2, h3, h4, h5, h6, h7, h8⟩ := e
            subst ht h1 h2 h3 h4 h5 h6 h7 h8
            exact ⟨od, n12, n9, n10, n11, n13, n14, sl, rfl, c⟩
          | _ => cases e
        · rw [decide_eq_false ht] at e
          cases e
      | _ => cases e
    | _ => cases e
/-- a class lies there -/
def clsB (K : PySem.W.Frag) (C : Addr) : Bool := match K.lookup C with
  | some ⟨_, _, .cls _, _⟩ => true
  | _ => false
theorem cls_of {K : PySem.W.Frag} {C : Addr} (e : clsB K C = true) : ∃ (xc : Value) (xd : Option Addr) (ic : PySem.ClassData) (xs : Array (Option Value)), K.lookup C = some ⟨xc, xd, .cls ic, xs⟩ := by
  unfold clsB at e
  cases h : K.lookup C with
  | none => rw [h] at e; cases e
  | some o =>
    obtain ⟨oc, od, dt, sl⟩ := o
    rw [h] at e
    cases dt with
    | cls ic => exact ⟨oc, od, ic, sl, rfl⟩
    | _ => cases e
/-- a method that begins with super() -/
def supB (K : PySem.W.Frag) (f C : Addr) (file q : Str) : Bool := match K.lookup f with
  | some ⟨_, _, .func fd, _⟩ => (match fd.kwdefaults, fd.closure, fd.code with
    | .none, [(x, cc)], .ref co => PySem.W.codeIn K (.ref co) q && ((match K.lookup co with
      | some ⟨_, _, .fields vs, _⟩ => (match vs[2]? with
        | some (PySem.Value.str g _) => file == g
        | _ => false)
      | _ => false) && (match K.lookup cc with
      | some ⟨_, _, .cell (some (PySem.Value.ref D)), _⟩ => decide (D = C)
      | _ => false))
    | _, _, _ => false)
  | _ => false
theorem sup_of {K : PySem.W.Frag} {f C : Addr} {n q file : Str} {st : Stmt} (e : fW K f = fV n q st ["__class__"]) (c : supB K f C file q = true) :
    ∃ (od an : Option Addr) (dc pm ct : Value) (sl : Array (Option Value)) (co cc : Addr) (ccl cv : Value) (cdd cld : Option Addr) (vs : Array Value) (ccs csl : Array (Option Value)) (g : Str) (tf : Tok),
      K.lookup f = some ⟨.type "function", od, .func (PySem.W.ksFn n q (defArgs st) (defBody st) (defScope st) .none .none dc pm an (.ref co) ct cc), sl⟩ ∧ PySem.W.codeIn K (.ref co) q = true ∧
      K.lookup co = some ⟨ccl, cdd, .fields vs, ccs⟩ ∧ vs[2]? = some (.str g tf) ∧ (file == g) = true ∧ K.lookup cc = some ⟨cv, cld, .cell (some (.ref C)), csl⟩ := by
  unfold fW fV at e
  unfold supB at c
  cases h : K.lookup f with
  | none => rw [h] at e; cases e
  | some o =>
    obtain ⟨oc, od, dt, sl⟩ := o
    rw [h] at e c
    cases oc with
    | type t =>
      cases dt with
      | func fd =>
        obtain ⟨n1, n2, n3, n4, n5, n6, n7, n8, n9, n10, n11, n12, n13, n14, n15⟩ := fd
        dsimp only at e c
        by_cases ht : t = "function"
        · rw [decide_eq_true ht] at e
          dsimp only at e
          cases n8 with
          | none =>
            dsimp only at e
            simp only [Option.some.injEq, Prod.mk.injEq] at e
            obtain ⟨h1, h2, h3, h4, h5, h6, h7, h8⟩ := e
            cases n9 with
            | none =>
              match n7, h7, c with
              | [(x, cc)], h7, c =>
                simp only [List.map_cons, List.map_nil, List.cons.injEq, and_true] at h7
                cases n13 with
                | ref co =>
                  dsimp only at c
                  obtain ⟨c1, c2⟩ := He.ba c
                  obtain ⟨c3, c4⟩ := He.ba c2
                  cases k1 : K.lookup co with
                  | none => rw [k1] at c3; cases c3
                  | some o1 =>
                    obtain ⟨p1, p2, p3, p4⟩ := o1
                    rw [k1] at c3
                    cases p3 with
                    | fields vs =>
                      dsimp only at c3
                      cases k2 : vs[2]? with
                      | none => rw [k2] at c3; cases c3
                      | some v2 =>
                        rw [k2] at c3
                        cases v2 with
                        | str g tf =>
                          cases k3 : K.lookup cc with
                          | none => rw [k3] at c4; cases c4
                          | some o3 =>
                            obtain ⟨r1, r2, r3, r4⟩ := o3
                            rw [k3] at c4
                            cases r3 with
                            | cell v =>
                              cases v with
                              | none => cases c4
                              | some v =>
                                cases v with
                                | ref D =>
                                  have hD : D = C := of_decide_eq_true c4
                                  subst ht h1 h2 h3 h4 h5 h6 h7 h8 hD
                                  exact ⟨od, n12, n10, n11, n14, sl, co, cc, p1, r1, p2, r2, vs, p4, r4, g, tf, rfl, c1, k1, k2, c3, k3⟩
                                | _ => cases c4
                            | _ => cases c4
                        | _ => cases c3
                    | _ => cases c3
                | _ => cases c
              | [], _, c => cases c
              | _ :: _ :: _, _, c => cases c
            | _ => cases c
          | _ => cases e
        · rw [decide_eq_false ht] at e
          cases e
      | _ => cases e
    | _ => cases e
/-- an own error class straight under CE -/
def excB (K : PySem.W.Frag) (C CE : Addr) : Bool := match K.lookup C with
  | some ⟨.type t, _, .cls cd, sl⟩ => decide (t = "type") && (decide (cd.mro = [.ref C, .ref CE, .type "ValueError", .type "Exception", .type "BaseException", .type "object"]) && (cd.hasDict && (!cd.hasDel && (match sl.toList with
    | [_, _, _, _, some (.builtin b), _] => decide (b = "ValueError.__new__")
    | _ => false))))
  | _ => false
theorem exc_of {K : PySem.W.Frag} {C CE : Addr} (e : excB K C CE = true) : ∃ (nm q : Str) (N : Addr) (bs : List Value) (sn : List Str) (sub : List Value) (ab : Bool) (col : Option Bool) (dd : Option Addr) (m0 m1 m2 m3 m5 : Option Value),
    K.lookup C = some (excClassObj nm q C N bs [.ref CE, .type "ValueError", .type "Exception", .type "BaseException", .type "object"] true sn sub ab col dd m0 m1 m2 m3 m5 "ValueError.__new__") := by
  unfold excB at e
  cases h : K.lookup C with
  | none => rw [h] at e; cases e
  | some o =>
    obtain ⟨oc, od, dt, sl⟩ := o
    rw [h] at e
    cases oc with
    | type t =>
      cases dt with
      | cls cd =>
        obtain ⟨d1, d2, d3, d4, d5, d6, d7, d8, d9, d10, d11⟩ := cd
        dsimp only at e
        obtain ⟨e1, e2⟩ := He.ba e
        obtain ⟨e3, e4⟩ := He.ba e2
        obtain ⟨e5, e6⟩ := He.ba e4
        obtain ⟨e7, e8⟩ := He.ba e6
        have h1 : t = "type" := of_decide_eq_true e1
        have h2 := of_decide_eq_true e3
        subst h1
        subst h2
        have h5 : d6 = true := e5
        subst h5
        have h7 : d11 = false := by cases d11 with | false => rfl | true => cases e7
        subst h7
        obtain ⟨sl⟩ := sl
        dsimp only at e8
        match sl, e8 with
        | [s0, s1, s2, s3, some (.builtin b), s5], e8 =>
          have hb : b = "ValueError.__new__" := of_decide_eq_true e8
          subst hb
          exact ⟨d1, d5, d4, d2, d7, d8, d9, d10, od, s0, s1, s2, s3, s5, rfl⟩
      | _ => cases e
    | _ => cases e
/-- a whole number among the names -/
def tkOf (K : PySem.W.Frag) (x : Str) : Tok := match PySem.W.nsIn K mainGlobals x with
  | some (some (.int _ t)) => t
  | _ => default
theorem test {l : List Bool} (h : l.all id = true) (i : Nat) {b : Bool} (e : l[i]? = some b) : b = true := List.all_eq_true.mp h b (List.mem_of_getElem? e)
theorem at_ {α : Type} {l m : List α} (h : l = m) (i : Nat) {a b : α} (e : l[i]? = some a) (e2 : m[i]? = some b) : a = b := by
  rw [h, e2] at e
  exact (Option.some.inj e).symm
theorem fn_at {l m : List FnW} (h : l = m) (i : Nat) {a b : FnW} (e : l[i]? = some a) (e2 : m[i]? = some b) : a = b := by
  rw [h, e2] at e
  exact (Option.some.inj e).symm
/-- the end over a head that looks -/
theorem walkGE {l : PySem.W.OpenLaw} {n k : Nat} {q : Program} {loose : List Str} {XP : (Str → Option Value) → Heap → Prop}
    {YP : World → Heap → Prop} {d : DefRec} {x : Str}
    (most : l.most = some n) (line : n ≤ sizeLine) (nod : d.params.defaults = []) (room : Room k callerA)
    (F : ∀ (w : World) (mg : Str → Option Value) (fa : Addr) (h : Heap), YP w h → h.Ns mainGlobals mg → mg d.name = some (.ref fa) →
      ∃ (K : PySem.W.Frag) (fd : FuncData) (sp : Sp), K.In h ∧ (∀ (s : Shared) (u : Value), BindsTo s fd ⟨[u], []⟩ [(x, u)]) ∧
        (∀ (H : Hp) (a : Addr) (ns : List Int), ns.length ≤ n → Only H → SqL K H a (ns.map V.int) → sp [.ref a] H (fun v _ => v = .bl true) fun _ _ _ => False) ∧
        ∀ base : Heap, K.In base → base.Ns mainGlobals mg → Gd.FnG l.prog w K mg base CX0 k fa fd [x] sp) :
    PySem.W.WalkO q loose XP YP l.row.toRowW d [] (fun f vs => PySem.call f vs) := by
  apply Att.attach_call most nod
  intro w s₀ s₁ mg mb fa o pm cd doc a vs ns G Y ho hd hcd hmg hobj hints hlen hg
  obtain ⟨K, fd, sp, kx, hb, hsp, hF⟩ := F w mg fa _ Y G.T.g hmg
  refine Gd.callG kx G.T.g G.T.b G.T.builtins G.T.nolimit hg hobj hints (Nat.le_trans hlen line) room hF hb ?_ ?_
  · intro H hO hS
    exact hsp H a ns hlen hO hS
  · intro H e s' h
    exact h
end Gh
set_option maxHeartbeats 0
namespace K46
open PySem PySem.Spec PyProof.Rows L2 Gd Gs Ge
open C8 (clsBody Met)
theorem keep_fn {K : PySem.W.Frag} {f : Addr} {oc : Value} {od : Option Addr} {fd : FuncData} {sl : Array (Option Value)} (e : K.lookup f = some ⟨oc, od, .func fd, sl⟩) : PySem.W.keepIn K (.ref f) = true := by
  unfold PySem.W.keepIn
  simp only [e]
theorem type_fn {K : PySem.W.Frag} {f : Addr} {oc : Value} {od : Option Addr} {d : Data} {sl : Array (Option Value)} (e : K.lookup f = some ⟨oc, od, d, sl⟩) : PySem.W.typeIn K (.ref f) = some oc := by
  show (K.lookup f).map (·.cls) = some oc
  rw [e]
  rfl
theorem isFn_fn {K : PySem.W.Frag} {f : Addr} {od : Option Addr} {d : Data} {sl : Array (Option Value)} (e : K.lookup f = some ⟨.type "function", od, d, sl⟩) : PySem.W.isFn K (.ref f) = true := by
  unfold PySem.W.isFn
  rw [type_fn e]
  simp
theorem fnIn_fn {K : PySem.W.Frag} {f : Addr} {oc : Value} {od : Option Addr} {fd : FuncData} {sl : Array (Option Value)} (e : K.lookup f = some ⟨oc, od, .func fd, sl⟩) : PySem.W.fnIn K f = true := by
  unfold PySem.W.fnIn
  simp only [e]
theorem exm_above {K : PySem.W.Frag} {S M : Addr} (up : PySem.W.subIn K (.ref S) (.ref M) = some true) (isC : PySem.W.isClsIn K M = true) (meta_ : PySem.W.typeIn K (.ref M) = some (.type "type"))
    (exc : PySem.W.subIn K (.ref M) (.type "BaseException") = some true) : PySem.W.exmOne K (.ref S) (.ref M) = some true := by
  unfold PySem.W.isClsIn at isC
  simp [PySem.W.exmOne, PySem.W.kitCls, exc, meta_, isC, up]
theorem kit_self {K : PySem.W.Frag} {S : Addr} : PySem.W.kitOne K (.ref S) (.ref S) = some true := by
  simp [PySem.W.kitOne]
theorem all_mk {l : PySem.W.OpenLaw} {w : World} {K : PySem.W.Frag} {h : Heap} {mg : Str → Option Value} {fa : Addr} (X : K.In h) (G : h.Ns mainGlobals mg) (hfa : mg "law" = some (.ref fa))
    {f0 : Addr}
    {od0 an0 : Option Addr}
    {sl0 : Array (Option Value)}
    {kV0 dc0 pm0 cd0 ct0 : Value}
    {f1 : Addr}
    {od1 an1 : Option Addr}
    {sl1 : Array (Option Value)}
    {kV1 dc1 pm1 cd1 ct1 : Value}
    {f2 : Addr}
    {od2 an2 : Option Addr}
    {sl2 : Array (Option Value)}
    {kV2 dc2 pm2 cd2 ct2 : Value}
    {f3 : Addr}
    {od3 an3 : Option Addr}
    {sl3 : Array (Option Value)}
    {kV3 dc3 pm3 cd3 ct3 : Value}
    {f4 : Addr}
    {od4 an4 : Option Addr}
    {sl4 : Array (Option Value)}
    {kV4 dc4 pm4 cd4 ct4 : Value}
    {f5 : Addr}
    {od5 an5 : Option Addr}
    {sl5 : Array (Option Value)}
    {kV5 dc5 pm5 cd5 ct5 : Value}
    {f6 : Addr}
    {od6 an6 : Option Addr}
    {sl6 : Array (Option Value)}
    {kV6 dc6 pm6 cd6 ct6 : Value}
    {f7 : Addr}
    {od7 an7 : Option Addr}
    {sl7 : Array (Option Value)}
    {kV7 dc7 pm7 cd7 ct7 : Value}
    {f8 : Addr}
    {od8 an8 : Option Addr}
    {sl8 : Array (Option Value)}
    {kV8 dc8 pm8 cd8 ct8 : Value}
    {f9 : Addr}
    {od9 an9 : Option Addr}
    {sl9 : Array (Option Value)}
    {kV9 dc9 pm9 cd9 ct9 : Value}
    {f10 : Addr}
    {od10 an10 : Option Addr}
    {sl10 : Array (Option Value)}
    {kV10 dc10 pm10 cd10 ct10 : Value}
    {f11 : Addr}
    {od11 an11 : Option Addr}
    {sl11 : Array (Option Value)}
    {kV11 dc11 pm11 cd11 ct11 : Value}
    {f12 : Addr}
    {od12 an12 : Option Addr}
    {sl12 : Array (Option Value)}
    {kV12 dc12 pm12 cd12 ct12 : Value}
    {f13 : Addr}
    {od13 an13 : Option Addr}
    {sl13 : Array (Option Value)}
    {kV13 dc13 pm13 cd13 ct13 : Value}
    {f14 : Addr}
    {od14 an14 : Option Addr}
    {sl14 : Array (Option Value)}
    {kV14 dc14 pm14 cd14 ct14 : Value}
    {f15 : Addr}
    {od15 an15 : Option Addr}
    {sl15 : Array (Option Value)}
    {kV15 dc15 pm15 cd15 ct15 : Value}
    {f16 : Addr}
    {od16 an16 : Option Addr}
    {sl16 : Array (Option Value)}
    {kV16 dc16 pm16 cd16 ct16 : Value}
    {f17 : Addr}
    {od17 an17 : Option Addr}
    {sl17 : Array (Option Value)}
    {kV17 dc17 pm17 cd17 ct17 : Value}
    {f18 : Addr}
    {od18 an18 : Option Addr}
    {sl18 : Array (Option Value)}
    {kV18 dc18 pm18 cd18 ct18 : Value}
    {f19 : Addr}
    {od19 an19 : Option Addr}
    {sl19 : Array (Option Value)}
    {kV19 dc19 pm19 cd19 ct19 : Value}
    {f20 : Addr}
    {od20 an20 : Option Addr}
    {sl20 : Array (Option Value)}
    {kV20 dc20 pm20 cd20 ct20 : Value}
    {f21 : Addr}
    {od21 an21 : Option Addr}
    {sl21 : Array (Option Value)}
    {kV21 dc21 pm21 cd21 ct21 : Value}
    {f22 : Addr}
    {od22 an22 : Option Addr}
    {sl22 : Array (Option Value)}
    {kV22 dc22 pm22 cd22 ct22 : Value}
    {f23 : Addr}
    {od23 an23 : Option Addr}
    {sl23 : Array (Option Value)}
    {kV23 dc23 pm23 cd23 ct23 : Value}
    {f24 : Addr}
    {od24 an24 : Option Addr}
    {sl24 : Array (Option Value)}
    {kV24 dc24 pm24 cd24 ct24 : Value}
    {t_MOST_MAKES : Tok}
    {t_MOST_CHANGES : Tok}
    {t_MOST_PLACES : Tok}
    {t_MOST_WORTH : Tok}
    {CM : Addr}
    {CL : Addr}
    {f_CM_many : Addr}
    {od_CM_many an_CM_many : Option Addr}
    {sl_CM_many : Array (Option Value)}
    {kV_CM_many dc_CM_many pm_CM_many cd_CM_many ct_CM_many : Value}
    {f_CM_need_make : Addr}
    {od_CM_need_make an_CM_need_make : Option Addr}
    {sl_CM_need_make : Array (Option Value)}
    {kV_CM_need_make dc_CM_need_make pm_CM_need_make cd_CM_need_make ct_CM_need_make : Value}
    {f_CM_own : Addr}
    {od_CM_own an_CM_own : Option Addr}
    {sl_CM_own : Array (Option Value)}
    {kV_CM_own dc_CM_own pm_CM_own cd_CM_own ct_CM_own : Value}
    {f_CM_line : Addr}
    {od_CM_line an_CM_line : Option Addr}
    {sl_CM_line : Array (Option Value)}
    {kV_CM_line dc_CM_line pm_CM_line cd_CM_line ct_CM_line : Value}
    {f_CM_grow : Addr}
    {od_CM_grow an_CM_grow : Option Addr}
    {sl_CM_grow : Array (Option Value)}
    {kV_CM_grow dc_CM_grow pm_CM_grow cd_CM_grow ct_CM_grow : Value}
    {f_CM_init : Addr}
    {od_CM_init an_CM_init : Option Addr}
    {sl_CM_init : Array (Option Value)}
    {kV_CM_init dc_CM_init pm_CM_init cd_CM_init ct_CM_init : Value}
    {f_CL_leaps_through : Addr}
    {od_CL_leaps_through an_CL_leaps_through : Option Addr}
    {sl_CL_leaps_through : Array (Option Value)}
    {kV_CL_leaps_through dc_CL_leaps_through pm_CL_leaps_through cd_CL_leaps_through ct_CL_leaps_through : Value}
    {ic_CL : PySem.ClassData}
    {xc_CL : Value}
    {xd_CL : Option Addr}
    {xs_CL : Array (Option Value)}
    {f_CL_grow cc_CL_grow co_CL_grow : Addr}
    {od_CL_grow an_CL_grow cdd_CL_grow cld_CL_grow : Option Addr}
    {dc_CL_grow pm_CL_grow ct_CL_grow ccl_CL_grow cv_CL_grow : Value}
    {sl_CL_grow ccs_CL_grow csl_CL_grow : Array (Option Value)}
    {vs_CL_grow : Array Value}
    {tf_CL_grow : Tok}
    {file_CL_grow : Str}
    {f_CL_init cc_CL_init co_CL_init : Addr}
    {od_CL_init an_CL_init cdd_CL_init cld_CL_init : Option Addr}
    {dc_CL_init pm_CL_init ct_CL_init ccl_CL_init cv_CL_init : Value}
    {sl_CL_init ccs_CL_init csl_CL_init : Array (Option Value)}
    {vs_CL_init : Array Value}
    {tf_CL_init : Tok}
    {file_CL_init : Str}
    {C : Addr}
    {f_C_init : Addr}
    {od_C_init an_C_init : Option Addr}
    {sl_C_init : Array (Option Value)}
    {kV_C_init dc_C_init pm_C_init cd_C_init ct_C_init : Value}
    {f_C_size : Addr}
    {od_C_size an_C_size : Option Addr}
    {sl_C_size : Array (Option Value)}
    {kV_C_size dc_C_size pm_C_size cd_C_size ct_C_size : Value}
    {f_C_many : Addr}
    {od_C_many an_C_many : Option Addr}
    {sl_C_many : Array (Option Value)}
    {kV_C_many dc_C_many pm_C_many cd_C_many ct_C_many : Value}
    {f_C_makes : Addr}
    {od_C_makes an_C_makes : Option Addr}
    {sl_C_makes : Array (Option Value)}
    {kV_C_makes dc_C_makes pm_C_makes cd_C_makes ct_C_makes : Value}
    {f_C_at : Addr}
    {od_C_at an_C_at : Option Addr}
    {sl_C_at : Array (Option Value)}
    {kV_C_at dc_C_at pm_C_at cd_C_at ct_C_at : Value}
    {f_C_row : Addr}
    {od_C_row an_C_row : Option Addr}
    {sl_C_row : Array (Option Value)}
    {kV_C_row dc_C_row pm_C_row cd_C_row ct_C_row : Value}
    {f_C_stretch : Addr}
    {od_C_stretch an_C_stretch : Option Addr}
    {sl_C_stretch : Array (Option Value)}
    {kV_C_stretch dc_C_stretch pm_C_stretch cd_C_stretch ct_C_stretch : Value}
    {f_C_writer : Addr}
    {od_C_writer an_C_writer : Option Addr}
    {sl_C_writer : Array (Option Value)}
    {kV_C_writer dc_C_writer pm_C_writer cd_C_writer ct_C_writer : Value}
    {f_C_place_of : Addr}
    {od_C_place_of an_C_place_of : Option Addr}
    {sl_C_place_of : Array (Option Value)}
    {kV_C_place_of dc_C_place_of pm_C_place_of cd_C_place_of ct_C_place_of : Value}
    {f_C_worths_in : Addr}
    {od_C_worths_in an_C_worths_in : Option Addr}
    {sl_C_worths_in : Array (Option Value)}
    {kV_C_worths_in dc_C_worths_in pm_C_worths_in cd_C_worths_in ct_C_worths_in : Value}
    {f_C_add_steps : Addr}
    {od_C_add_steps an_C_add_steps : Option Addr}
    {sl_C_add_steps : Array (Option Value)}
    {kV_C_add_steps dc_C_add_steps pm_C_add_steps cd_C_add_steps ct_C_add_steps : Value}
    {f_C_need_make : Addr}
    {od_C_need_make an_C_need_make : Option Addr}
    {sl_C_need_make : Array (Option Value)}
    {kV_C_need_make dc_C_need_make pm_C_need_make cd_C_need_make ct_C_need_make : Value}
    {f_C_need_place : Addr}
    {od_C_need_place an_C_need_place : Option Addr}
    {sl_C_need_place : Array (Option Value)}
    {kV_C_need_place dc_C_need_place pm_C_need_place cd_C_need_place ct_C_need_place : Value}
    {f_C_need_stretch : Addr}
    {od_C_need_stretch an_C_need_stretch : Option Addr}
    {sl_C_need_stretch : Array (Option Value)}
    {kV_C_need_stretch dc_C_need_stretch pm_C_need_stretch cd_C_need_stretch ct_C_need_stretch : Value}
    {f_C_row_need_there : Addr}
    {od_C_row_need_there an_C_row_need_there : Option Addr}
    {sl_C_row_need_there : Array (Option Value)}
    {kV_C_row_need_there dc_C_row_need_there pm_C_row_need_there cd_C_row_need_there ct_C_row_need_there : Value}
    {f_C_up_to_writer : Addr}
    {od_C_up_to_writer an_C_up_to_writer : Option Addr}
    {sl_C_up_to_writer : Array (Option Value)}
    {kV_C_up_to_writer dc_C_up_to_writer pm_C_up_to_writer cd_C_up_to_writer ct_C_up_to_writer : Value}
    {f_C_row_put : Addr}
    {od_C_row_put an_C_row_put : Option Addr}
    {sl_C_row_put : Array (Option Value)}
    {kV_C_row_put dc_C_row_put pm_C_row_put cd_C_row_put ct_C_row_put : Value}
    {f_C_row_need_room_for : Addr}
    {od_C_row_need_room_for an_C_row_need_room_for : Option Addr}
    {sl_C_row_need_room_for : Array (Option Value)}
    {kV_C_row_need_room_for dc_C_row_need_room_for pm_C_row_need_room_for cd_C_row_need_room_for ct_C_row_need_room_for : Value}
    {f_C_row_writers : Addr}
    {od_C_row_writers an_C_row_writers : Option Addr}
    {sl_C_row_writers : Array (Option Value)}
    {kV_C_row_writers dc_C_row_writers pm_C_row_writers cd_C_row_writers ct_C_row_writers : Value}
    {f_C_needed_no_more : Addr}
    {od_C_needed_no_more an_C_needed_no_more : Option Addr}
    {sl_C_needed_no_more : Array (Option Value)}
    {kV_C_needed_no_more dc_C_needed_no_more pm_C_needed_no_more cd_C_needed_no_more ct_C_needed_no_more : Value}
    {f_C_put : Addr}
    {od_C_put an_C_put : Option Addr}
    {sl_C_put : Array (Option Value)}
    {kV_C_put dc_C_put pm_C_put cd_C_put ct_C_put : Value}
    {f_C_need_new : Addr}
    {od_C_need_new an_C_need_new : Option Addr}
    {sl_C_need_new : Array (Option Value)}
    {kV_C_need_new dc_C_need_new pm_C_need_new cd_C_need_new ct_C_need_new : Value}
    {f_C_begin : Addr}
    {od_C_begin an_C_begin : Option Addr}
    {sl_C_begin : Array (Option Value)}
    {kV_C_begin dc_C_begin pm_C_begin cd_C_begin ct_C_begin : Value}
    {f_C_store : Addr}
    {od_C_store an_C_store : Option Addr}
    {sl_C_store : Array (Option Value)}
    {kV_C_store dc_C_store pm_C_store cd_C_store ct_C_store : Value}
    {f_C_looked : Addr}
    {od_C_looked an_C_looked : Option Addr}
    {sl_C_looked : Array (Option Value)}
    {kV_C_looked dc_C_looked pm_C_looked cd_C_looked ct_C_looked : Value}
    {f_C_freed : Addr}
    {od_C_freed an_C_freed : Option Addr}
    {sl_C_freed : Array (Option Value)}
    {kV_C_freed dc_C_freed pm_C_freed cd_C_freed ct_C_freed : Value}
    {f_C_box : Addr}
    {od_C_box an_C_box : Option Addr}
    {sl_C_box : Array (Option Value)}
    {kV_C_box dc_C_box pm_C_box cd_C_box ct_C_box : Value}
    {f_C_room : Addr}
    {od_C_room an_C_room : Option Addr}
    {sl_C_room : Array (Option Value)}
    {kV_C_room dc_C_room pm_C_room cd_C_room ct_C_room : Value}
    {f_C_in_order : Addr}
    {od_C_in_order an_C_in_order : Option Addr}
    {sl_C_in_order : Array (Option Value)}
    {kV_C_in_order dc_C_in_order pm_C_in_order cd_C_in_order ct_C_in_order : Value}
    {f_C_found : Addr}
    {od_C_found an_C_found : Option Addr}
    {sl_C_found : Array (Option Value)}
    {kV_C_found dc_C_found pm_C_found cd_C_found ct_C_found : Value}
    {f_C_turn_of_each : Addr}
    {od_C_turn_of_each an_C_turn_of_each : Option Addr}
    {sl_C_turn_of_each : Array (Option Value)}
    {kV_C_turn_of_each dc_C_turn_of_each pm_C_turn_of_each cd_C_turn_of_each ct_C_turn_of_each : Value}
    {CR : Addr}
    {f_CR_let_go : Addr}
    {od_CR_let_go an_CR_let_go : Option Addr}
    {sl_CR_let_go : Array (Option Value)}
    {kV_CR_let_go dc_CR_let_go pm_CR_let_go cd_CR_let_go ct_CR_let_go : Value}
    {ic_C : PySem.ClassData}
    {xc_C : Value}
    {xd_C : Option Addr}
    {xs_C : Array (Option Value)}
    {f_C_let_go cc_C_let_go co_C_let_go : Addr}
    {od_C_let_go an_C_let_go cdd_C_let_go cld_C_let_go : Option Addr}
    {dc_C_let_go pm_C_let_go ct_C_let_go ccl_C_let_go cv_C_let_go : Value}
    {sl_C_let_go ccs_C_let_go csl_C_let_go : Array (Option Value)}
    {vs_C_let_go : Array Value}
    {tf_C_let_go : Tok}
    {file_C_let_go : Str}
    {CE : Addr}
    {nmA qA fileA : Str} {CA fA NA cdaA ccA : Addr} {bsA subA : List Value} {snA : List Str} {abA : Bool} {colA : Option Bool} {ddA odA anA cddA cldA : Option Addr} {m0A m1A m2A m3A m5A : Option Value} {dcA pmA ctA cclA clA : Value} {slA ccsA cslA : Array (Option Value)} {vsA : Array Value} {tfA : Tok} {kdA : Nat} {r1A r2A p1A p2A p3A p4A p5A p6A q1A q2A q3A q4A : Pos}
    {nmN qN fileN : Str} {CN fN NN cdaN ccN : Addr} {bsN subN : List Value} {snN : List Str} {abN : Bool} {colN : Option Bool} {ddN odN anN cddN cldN : Option Addr} {m0N m1N m2N m3N m5N : Option Value} {dcN pmN ctN cclN clN : Value} {slN ccsN cslN : Array (Option Value)} {vsN : Array Value} {tfN : Tok} {kdN : Nat} {r1N r2N p1N p2N p3N p4N p5N p6N q1N q2N q3N q4N : Pos}
    {nmP qP fileP : Str} {CP fP NP cdaP ccP : Addr} {bsP subP : List Value} {snP : List Str} {abP : Bool} {colP : Option Bool} {ddP odP anP cddP cldP : Option Addr} {m0P m1P m2P m3P m5P : Option Value} {dcP pmP ctP cclP clP : Value} {slP ccsP cslP : Array (Option Value)} {vsP : Array Value} {tfP : Tok} {kdP : Nat} {r1P r2P p1P p2P p3P p4P p5P p6P q1P q2P q3P q4P : Pos}
    {nmS qS fileS : Str} {CS fS NS cdaS ccS : Addr} {bsS subS : List Value} {snS : List Str} {abS : Bool} {colS : Option Bool} {ddS odS anS cddS cldS : Option Addr} {m0S m1S m2S m3S m5S : Option Value} {dcS pmS ctS cclS clS : Value} {slS ccsS cslS : Array (Option Value)} {vsS : Array Value} {tfS : Tok} {kdS : Nat} {r1S r2S p1S p2S p3S p4S p5S p6S q1S q2S q3S q4S t1S t2S t3S t4S r3S : Pos}
    (a0 : PySem.W.nsIn K mainGlobals "found_by_halving" = some (some (.ref f0)))
    (l0 : K.lookup f0 = some ⟨.type "function", od0, .func (PySem.W.fnOf "found_by_halving" "found_by_halving" (defArgs s_found_by_halving) (defBody s_found_by_halving) (defScope s_found_by_halving) .none kV0 dc0 pm0 an0 cd0 ct0), sl0⟩)
    (c0 : PySem.W.codeIn K cd0 "found_by_halving" = true)
    (a1 : PySem.W.nsIn K mainGlobals "is_whole" = some (some (.ref f1)))
    (l1 : K.lookup f1 = some ⟨.type "function", od1, .func (PySem.W.fnOf "is_whole" "is_whole" (defArgs s_is_whole) (defBody s_is_whole) (defScope s_is_whole) .none kV1 dc1 pm1 an1 cd1 ct1), sl1⟩)
    (c1 : PySem.W.codeIn K cd1 "is_whole" = true)
    (a2 : PySem.W.nsIn K mainGlobals "is_worth" = some (some (.ref f2)))
    (l2 : K.lookup f2 = some ⟨.type "function", od2, .func (PySem.W.fnOf "is_worth" "is_worth" (defArgs s_is_worth) (defBody s_is_worth) (defScope s_is_worth) .none kV2 dc2 pm2 an2 cd2 ct2), sl2⟩)
    (c2 : PySem.W.codeIn K cd2 "is_worth" = true)
    (a3 : PySem.W.nsIn K mainGlobals "is_worths" = some (some (.ref f3)))
    (l3 : K.lookup f3 = some ⟨.type "function", od3, .func (PySem.W.fnOf "is_worths" "is_worths" (defArgs s_is_worths) (defBody s_is_worths) (defScope s_is_worths) .none kV3 dc3 pm3 an3 cd3 ct3), sl3⟩)
    (c3 : PySem.W.codeIn K cd3 "is_worths" = true)
    (a4 : PySem.W.nsIn K mainGlobals "_first_of_runs" = some (some (.ref f4)))
    (l4 : K.lookup f4 = some ⟨.type "function", od4, .func (PySem.W.fnOf "_first_of_runs" "_first_of_runs" (defArgs s__first_of_runs) (defBody s__first_of_runs) (defScope s__first_of_runs) .none kV4 dc4 pm4 an4 cd4 ct4), sl4⟩)
    (c4 : PySem.W.codeIn K cd4 "_first_of_runs" = true)
    (a5 : PySem.W.nsIn K mainGlobals "_law_cell_at" = some (some (.ref f5)))
    (l5 : K.lookup f5 = some ⟨.type "function", od5, .func (PySem.W.fnOf "_law_cell_at" "_law_cell_at" (defArgs s__law_cell_at) (defBody s__law_cell_at) (defScope s__law_cell_at) .none kV5 dc5 pm5 an5 cd5 ct5), sl5⟩)
    (c5 : PySem.W.codeIn K cd5 "_law_cell_at" = true)
    (a6 : PySem.W.nsIn K mainGlobals "_law_box" = some (some (.ref f6)))
    (l6 : K.lookup f6 = some ⟨.type "function", od6, .func (PySem.W.fnOf "_law_box" "_law_box" (defArgs s__law_box) (defBody s__law_box) (defScope s__law_box) .none kV6 dc6 pm6 an6 cd6 ct6), sl6⟩)
    (c6 : PySem.W.codeIn K cd6 "_law_box" = true)
    (a7 : PySem.W.nsIn K mainGlobals "_law_take" = some (some (.ref f7)))
    (l7 : K.lookup f7 = some ⟨.type "function", od7, .func (PySem.W.fnOf "_law_take" "_law_take" (defArgs s__law_take) (defBody s__law_take) (defScope s__law_take) .none kV7 dc7 pm7 an7 cd7 ct7), sl7⟩)
    (c7 : PySem.W.codeIn K cd7 "_law_take" = true)
    (a8 : PySem.W.nsIn K mainGlobals "_law_worth" = some (some (.ref f8)))
    (l8 : K.lookup f8 = some ⟨.type "function", od8, .func (PySem.W.fnOf "_law_worth" "_law_worth" (defArgs s__law_worth) (defBody s__law_worth) (defScope s__law_worth) .none kV8 dc8 pm8 an8 cd8 ct8), sl8⟩)
    (c8 : PySem.W.codeIn K cd8 "_law_worth" = true)
    (a9 : PySem.W.nsIn K mainGlobals "_law_worths" = some (some (.ref f9)))
    (l9 : K.lookup f9 = some ⟨.type "function", od9, .func (PySem.W.fnOf "_law_worths" "_law_worths" (defArgs s__law_worths) (defBody s__law_worths) (defScope s__law_worths) .none kV9 dc9 pm9 an9 cd9 ct9), sl9⟩)
    (c9 : PySem.W.codeIn K cd9 "_law_worths" = true)
    (a10 : PySem.W.nsIn K mainGlobals "_law_model" = some (some (.ref f10)))
    (l10 : K.lookup f10 = some ⟨.type "function", od10, .func (PySem.W.fnOf "_law_model" "_law_model" (defArgs s__law_model) (defBody s__law_model) (defScope s__law_model) .none kV10 dc10 pm10 an10 cd10 ct10), sl10⟩)
    (c10 : PySem.W.codeIn K cd10 "_law_model" = true)
    (a11 : PySem.W.nsIn K mainGlobals "_law_written" = some (some (.ref f11)))
    (l11 : K.lookup f11 = some ⟨.type "function", od11, .func (PySem.W.fnOf "_law_written" "_law_written" (defArgs s__law_written) (defBody s__law_written) (defScope s__law_written) .none kV11 dc11 pm11 an11 cd11 ct11), sl11⟩)
    (c11 : PySem.W.codeIn K cd11 "_law_written" = true)
    (a12 : PySem.W.nsIn K mainGlobals "_law_one_of" = some (some (.ref f12)))
    (l12 : K.lookup f12 = some ⟨.type "function", od12, .func (PySem.W.fnOf "_law_one_of" "_law_one_of" (defArgs s__law_one_of) (defBody s__law_one_of) (defScope s__law_one_of) .none kV12 dc12 pm12 an12 cd12 ct12), sl12⟩)
    (c12 : PySem.W.codeIn K cd12 "_law_one_of" = true)
    (a13 : PySem.W.nsIn K mainGlobals "_law_last" = some (some (.ref f13)))
    (l13 : K.lookup f13 = some ⟨.type "function", od13, .func (PySem.W.fnOf "_law_last" "_law_last" (defArgs s__law_last) (defBody s__law_last) (defScope s__law_last) .none kV13 dc13 pm13 an13 cd13 ct13), sl13⟩)
    (c13 : PySem.W.codeIn K cd13 "_law_last" = true)
    (a14 : PySem.W.nsIn K mainGlobals "_law_put" = some (some (.ref f14)))
    (l14 : K.lookup f14 = some ⟨.type "function", od14, .func (PySem.W.fnOf "_law_put" "_law_put" (defArgs s__law_put) (defBody s__law_put) (defScope s__law_put) .none kV14 dc14 pm14 an14 cd14 ct14), sl14⟩)
    (c14 : PySem.W.codeIn K cd14 "_law_put" = true)
    (a15 : PySem.W.nsIn K mainGlobals "_law_come" = some (some (.ref f15)))
    (l15 : K.lookup f15 = some ⟨.type "function", od15, .func (PySem.W.fnOf "_law_come" "_law_come" (defArgs s__law_come) (defBody s__law_come) (defScope s__law_come) .none kV15 dc15 pm15 an15 cd15 ct15), sl15⟩)
    (c15 : PySem.W.codeIn K cd15 "_law_come" = true)
    (a16 : PySem.W.nsIn K mainGlobals "_law_runs" = some (some (.ref f16)))
    (l16 : K.lookup f16 = some ⟨.type "function", od16, .func (PySem.W.fnOf "_law_runs" "_law_runs" (defArgs s__law_runs) (defBody s__law_runs) (defScope s__law_runs) .none kV16 dc16 pm16 an16 cd16 ct16), sl16⟩)
    (c16 : PySem.W.codeIn K cd16 "_law_runs" = true)
    (a17 : PySem.W.nsIn K mainGlobals "_law_reads" = some (some (.ref f17)))
    (l17 : K.lookup f17 = some ⟨.type "function", od17, .func (PySem.W.fnOf "_law_reads" "_law_reads" (defArgs s__law_reads) (defBody s__law_reads) (defScope s__law_reads) .none kV17 dc17 pm17 an17 cd17 ct17), sl17⟩)
    (c17 : PySem.W.codeIn K cd17 "_law_reads" = true)
    (a18 : PySem.W.nsIn K mainGlobals "_law_caught" = some (some (.ref f18)))
    (l18 : K.lookup f18 = some ⟨.type "function", od18, .func (PySem.W.fnOf "_law_caught" "_law_caught" (defArgs s__law_caught) (defBody s__law_caught) (defScope s__law_caught) .none kV18 dc18 pm18 an18 cd18 ct18), sl18⟩)
    (c18 : PySem.W.codeIn K cd18 "_law_caught" = true)
    (a19 : PySem.W.nsIn K mainGlobals "_law_told" = some (some (.ref f19)))
    (l19 : K.lookup f19 = some ⟨.type "function", od19, .func (PySem.W.fnOf "_law_told" "_law_told" (defArgs s__law_told) (defBody s__law_told) (defScope s__law_told) .none kV19 dc19 pm19 an19 cd19 ct19), sl19⟩)
    (c19 : PySem.W.codeIn K cd19 "_law_told" = true)
    (a20 : PySem.W.nsIn K mainGlobals "_law_ask" = some (some (.ref f20)))
    (l20 : K.lookup f20 = some ⟨.type "function", od20, .func (PySem.W.fnOf "_law_ask" "_law_ask" (defArgs s__law_ask) (defBody s__law_ask) (defScope s__law_ask) .none kV20 dc20 pm20 an20 cd20 ct20), sl20⟩)
    (c20 : PySem.W.codeIn K cd20 "_law_ask" = true)
    (a21 : PySem.W.nsIn K mainGlobals "_law_bad_ask" = some (some (.ref f21)))
    (l21 : K.lookup f21 = some ⟨.type "function", od21, .func (PySem.W.fnOf "_law_bad_ask" "_law_bad_ask" (defArgs s__law_bad_ask) (defBody s__law_bad_ask) (defScope s__law_bad_ask) .none kV21 dc21 pm21 an21 cd21 ct21), sl21⟩)
    (c21 : PySem.W.codeIn K cd21 "_law_bad_ask" = true)
    (a22 : PySem.W.nsIn K mainGlobals "_law_asks_refused" = some (some (.ref f22)))
    (l22 : K.lookup f22 = some ⟨.type "function", od22, .func (PySem.W.fnOf "_law_asks_refused" "_law_asks_refused" (defArgs s__law_asks_refused) (defBody s__law_asks_refused) (defScope s__law_asks_refused) .none kV22 dc22 pm22 an22 cd22 ct22), sl22⟩)
    (c22 : PySem.W.codeIn K cd22 "_law_asks_refused" = true)
    (a23 : PySem.W.nsIn K mainGlobals "_law_let_go" = some (some (.ref f23)))
    (l23 : K.lookup f23 = some ⟨.type "function", od23, .func (PySem.W.fnOf "_law_let_go" "_law_let_go" (defArgs s__law_let_go) (defBody s__law_let_go) (defScope s__law_let_go) .none kV23 dc23 pm23 an23 cd23 ct23), sl23⟩)
    (c23 : PySem.W.codeIn K cd23 "_law_let_go" = true)
    (a24 : PySem.W.nsIn K mainGlobals "law" = some (some (.ref f24)))
    (l24 : K.lookup f24 = some ⟨.type "function", od24, .func (PySem.W.fnOf "law" "law" (defArgs s_law) (defBody s_law) (defScope s_law) .none kV24 dc24 pm24 an24 cd24 ct24), sl24⟩)
    (c24 : PySem.W.codeIn K cd24 "law" = true)
    (z_len : PySem.W.nsIn K mainGlobals "len" = some none)
    (z_max : PySem.W.nsIn K mainGlobals "max" = some none)
    (z_min : PySem.W.nsIn K mainGlobals "min" = some none)
    (z_range : PySem.W.nsIn K mainGlobals "range" = some none)
    (z_repr : PySem.W.nsIn K mainGlobals "repr" = some none)
    (z_all : PySem.W.nsIn K mainGlobals "all" = some none)
    (z_enumerate : PySem.W.nsIn K mainGlobals "enumerate" = some none)
    (z_tuple : PySem.W.nsIn K mainGlobals "tuple" = some none)
    (z_isinstance : PySem.W.nsIn K mainGlobals "isinstance" = some none)
    (z_int : PySem.W.nsIn K mainGlobals "int" = some none)
    (z_bool : PySem.W.nsIn K mainGlobals "bool" = some none)
    (z_list : PySem.W.nsIn K mainGlobals "list" = some none)
    (z_sum : PySem.W.nsIn K mainGlobals "sum" = some none)
    (z_zip : PySem.W.nsIn K mainGlobals "zip" = some none)
    (z_sorted : PySem.W.nsIn K mainGlobals "sorted" = some none)
    (z_reversed : PySem.W.nsIn K mainGlobals "reversed" = some none)
    (i_MOST_MAKES : PySem.W.nsIn K mainGlobals "MOST_MAKES" = some (some (.int 64 t_MOST_MAKES)))
    (i_MOST_CHANGES : PySem.W.nsIn K mainGlobals "MOST_CHANGES" = some (some (.int 20 t_MOST_CHANGES)))
    (i_MOST_PLACES : PySem.W.nsIn K mainGlobals "MOST_PLACES" = some (some (.int 16 t_MOST_PLACES)))
    (i_MOST_WORTH : PySem.W.nsIn K mainGlobals "MOST_WORTH" = some (some (.int (10 ^ 30 - 1) t_MOST_WORTH)))
    (a_CM : PySem.W.nsIn K mainGlobals "MakeTree" = some (some (.ref CM)))
    (a_CL : PySem.W.nsIn K mainGlobals "LeapTree" = some (some (.ref CL)))
    (pg_CL : PySem.W.plainGet K CL Str.empty = true)
    (hd_CL : PySem.W.hasDictIn K CL = true)
    (po_CL : PySem.W.plainOver K CL = true)
    (sa_CL : PySem.W.findIn K (.ref CL) "__setattr__" = some (some (.builtin "object.__setattr__")))
    (no_CL__owns : PySem.W.findIn K (.ref CL) "_owns" = some none)
    (no_CL__depths : PySem.W.findIn K (.ref CL) "_depths" = some none)
    (no_CL__on : PySem.W.findIn K (.ref CL) "_on" = some none)
    (no_CL__leaps : PySem.W.findIn K (.ref CL) "_leaps" = some none)
    (mk_CL : PySem.W.makesIn K CL = true)
    (kp_CL : PySem.W.keepIn K (.ref CL) = true)
    (m_CM_many_CL : PySem.W.findIn K (.ref CL) "many" = some (some (.ref f_CM_many)))
    (l_CM_many : K.lookup f_CM_many = some ⟨.type "function", od_CM_many, .func (PySem.W.fnOf "many" "MakeTree.many" (defArgs s_MakeTree_many) (defBody s_MakeTree_many) (defScope s_MakeTree_many) .none kV_CM_many dc_CM_many pm_CM_many an_CM_many cd_CM_many ct_CM_many), sl_CM_many⟩)
    (c_CM_many : PySem.W.codeIn K cd_CM_many "MakeTree.many" = true)
    (m_CM_need_make_CL : PySem.W.findIn K (.ref CL) "_need_make" = some (some (.ref f_CM_need_make)))
    (l_CM_need_make : K.lookup f_CM_need_make = some ⟨.type "function", od_CM_need_make, .func (PySem.W.fnOf "_need_make" "MakeTree._need_make" (defArgs s_MakeTree__need_make) (defBody s_MakeTree__need_make) (defScope s_MakeTree__need_make) .none kV_CM_need_make dc_CM_need_make pm_CM_need_make an_CM_need_make cd_CM_need_make ct_CM_need_make), sl_CM_need_make⟩)
    (c_CM_need_make : PySem.W.codeIn K cd_CM_need_make "MakeTree._need_make" = true)
    (m_CM_own_CL : PySem.W.findIn K (.ref CL) "own" = some (some (.ref f_CM_own)))
    (l_CM_own : K.lookup f_CM_own = some ⟨.type "function", od_CM_own, .func (PySem.W.fnOf "own" "MakeTree.own" (defArgs s_MakeTree_own) (defBody s_MakeTree_own) (defScope s_MakeTree_own) .none kV_CM_own dc_CM_own pm_CM_own an_CM_own cd_CM_own ct_CM_own), sl_CM_own⟩)
    (c_CM_own : PySem.W.codeIn K cd_CM_own "MakeTree.own" = true)
    (m_CM_line_CL : PySem.W.findIn K (.ref CL) "line" = some (some (.ref f_CM_line)))
    (l_CM_line : K.lookup f_CM_line = some ⟨.type "function", od_CM_line, .func (PySem.W.fnOf "line" "MakeTree.line" (defArgs s_MakeTree_line) (defBody s_MakeTree_line) (defScope s_MakeTree_line) .none kV_CM_line dc_CM_line pm_CM_line an_CM_line cd_CM_line ct_CM_line), sl_CM_line⟩)
    (c_CM_line : PySem.W.codeIn K cd_CM_line "MakeTree.line" = true)
    (m_CM_grow : PySem.W.findIn K (.ref CM) "grow" = some (some (.ref f_CM_grow)))
    (l_CM_grow : K.lookup f_CM_grow = some ⟨.type "function", od_CM_grow, .func (PySem.W.fnOf "grow" "MakeTree.grow" (defArgs s_MakeTree_grow) (defBody s_MakeTree_grow) (defScope s_MakeTree_grow) .none kV_CM_grow dc_CM_grow pm_CM_grow an_CM_grow cd_CM_grow ct_CM_grow), sl_CM_grow⟩)
    (c_CM_grow : PySem.W.codeIn K cd_CM_grow "MakeTree.grow" = true)
    (m_CM_init : PySem.W.findIn K (.ref CM) "__init__" = some (some (.ref f_CM_init)))
    (l_CM_init : K.lookup f_CM_init = some ⟨.type "function", od_CM_init, .func (PySem.W.fnOf "__init__" "MakeTree.__init__" (defArgs s_MakeTree___init__) (defBody s_MakeTree___init__) (defScope s_MakeTree___init__) .none kV_CM_init dc_CM_init pm_CM_init an_CM_init cd_CM_init ct_CM_init), sl_CM_init⟩)
    (c_CM_init : PySem.W.codeIn K cd_CM_init "MakeTree.__init__" = true)
    (m_CL_leaps_through : PySem.W.findIn K (.ref CL) "_leaps_through" = some (some (.ref f_CL_leaps_through)))
    (l_CL_leaps_through : K.lookup f_CL_leaps_through = some ⟨.type "function", od_CL_leaps_through, .func (PySem.W.fnOf "_leaps_through" "LeapTree._leaps_through" (defArgs s_LeapTree__leaps_through) (defBody s_LeapTree__leaps_through) (defScope s_LeapTree__leaps_through) .none kV_CL_leaps_through dc_CL_leaps_through pm_CL_leaps_through an_CL_leaps_through cd_CL_leaps_through ct_CL_leaps_through), sl_CL_leaps_through⟩)
    (c_CL_leaps_through : PySem.W.codeIn K cd_CL_leaps_through "LeapTree._leaps_through" = true)
    (op : PySem.W.nsIn K cStatics "thirdparty.any" = some none)
    (zs : PySem.W.nsIn K mainGlobals "super" = some none)
    (htop : (l.prog.main.scope.names.lookup ("super" : Str)).isSome = false)
    (x_CL : K.lookup CL = some ⟨xc_CL, xd_CL, .cls ic_CL, xs_CL⟩)
    (mm_CL : PySem.W.mroIn K CL (.ref CL) = some true)
    (m_CL_grow : PySem.W.findIn K (.ref CL) "grow" = some (some (.ref f_CL_grow)))
    (l_CL_grow : K.lookup f_CL_grow = some ⟨.type "function", od_CL_grow, .func (PySem.W.ksFn "grow" "LeapTree.grow" (defArgs s_LeapTree_grow) (defBody s_LeapTree_grow) (defScope s_LeapTree_grow) .none .none dc_CL_grow pm_CL_grow an_CL_grow (.ref co_CL_grow) ct_CL_grow cc_CL_grow), sl_CL_grow⟩)
    (c_CL_grow : PySem.W.codeIn K (.ref co_CL_grow) "LeapTree.grow" = true)
    (dl_CL_grow : K.lookup co_CL_grow = some ⟨ccl_CL_grow, cdd_CL_grow, .fields vs_CL_grow, ccs_CL_grow⟩)
    (fv_CL_grow : vs_CL_grow[2]? = some (.str file_CL_grow tf_CL_grow))
    (fl_CL_grow : ((l.prog.main.file : Str) == file_CL_grow) = true)
    (zc_CL_grow : K.lookup cc_CL_grow = some ⟨cv_CL_grow, cld_CL_grow, .cell (some (.ref CL)), csl_CL_grow⟩)
    (su_CL_grow : PySem.W.ks_superIn K CL CL "grow" = some (some (.ref f_CM_grow)))
    (m_CL_init : PySem.W.findIn K (.ref CL) "__init__" = some (some (.ref f_CL_init)))
    (l_CL_init : K.lookup f_CL_init = some ⟨.type "function", od_CL_init, .func (PySem.W.ksFn "__init__" "LeapTree.__init__" (defArgs s_LeapTree___init__) (defBody s_LeapTree___init__) (defScope s_LeapTree___init__) .none .none dc_CL_init pm_CL_init an_CL_init (.ref co_CL_init) ct_CL_init cc_CL_init), sl_CL_init⟩)
    (c_CL_init : PySem.W.codeIn K (.ref co_CL_init) "LeapTree.__init__" = true)
    (dl_CL_init : K.lookup co_CL_init = some ⟨ccl_CL_init, cdd_CL_init, .fields vs_CL_init, ccs_CL_init⟩)
    (fv_CL_init : vs_CL_init[2]? = some (.str file_CL_init tf_CL_init))
    (fl_CL_init : ((l.prog.main.file : Str) == file_CL_init) = true)
    (zc_CL_init : K.lookup cc_CL_init = some ⟨cv_CL_init, cld_CL_init, .cell (some (.ref CL)), csl_CL_init⟩)
    (su_CL_init : PySem.W.ks_superIn K CL CL "__init__" = some (some (.ref f_CM_init)))
    (a_C : PySem.W.nsIn K mainGlobals "Boxed" = some (some (.ref C)))
    (pg_C : PySem.W.plainGet K C Str.empty = true)
    (hd_C : PySem.W.hasDictIn K C = true)
    (po_C : PySem.W.plainOver K C = true)
    (sa_C : PySem.W.findIn K (.ref C) "__setattr__" = some (some (.builtin "object.__setattr__")))
    (no_C__row_size : PySem.W.findIn K (.ref C) "_row_size" = some none)
    (no_C__row_tree : PySem.W.findIn K (.ref C) "_row_tree" = some none)
    (no_C__row_places : PySem.W.findIn K (.ref C) "_row_places" = some none)
    (no_C__row_kept : PySem.W.findIn K (.ref C) "_row_kept" = some none)
    (no_C__row_steps : PySem.W.findIn K (.ref C) "_row_steps" = some none)
    (no_C__order : PySem.W.findIn K (.ref C) "_order" = some none)
    (no_C__boxes : PySem.W.findIn K (.ref C) "_boxes" = some none)
    (mk_C : PySem.W.makesIn K C = true)
    (kp_C : PySem.W.keepIn K (.ref C) = true)
    (m_C_init : PySem.W.findIn K (.ref C) "__init__" = some (some (.ref f_C_init)))
    (l_C_init : K.lookup f_C_init = some ⟨.type "function", od_C_init, .func (PySem.W.fnOf "__init__" "Rows.__init__" (defArgs s_Rows___init__) (defBody s_Rows___init__) (defScope s_Rows___init__) .none kV_C_init dc_C_init pm_C_init an_C_init cd_C_init ct_C_init), sl_C_init⟩)
    (c_C_init : PySem.W.codeIn K cd_C_init "Rows.__init__" = true)
    (m_C_size : PySem.W.findIn K (.ref C) "size" = some (some (.ref f_C_size)))
    (l_C_size : K.lookup f_C_size = some ⟨.type "function", od_C_size, .func (PySem.W.fnOf "size" "Rows.size" (defArgs s_Rows_size) (defBody s_Rows_size) (defScope s_Rows_size) .none kV_C_size dc_C_size pm_C_size an_C_size cd_C_size ct_C_size), sl_C_size⟩)
    (c_C_size : PySem.W.codeIn K cd_C_size "Rows.size" = true)
    (m_C_many : PySem.W.findIn K (.ref C) "many" = some (some (.ref f_C_many)))
    (l_C_many : K.lookup f_C_many = some ⟨.type "function", od_C_many, .func (PySem.W.fnOf "many" "Rows.many" (defArgs s_Rows_many) (defBody s_Rows_many) (defScope s_Rows_many) .none kV_C_many dc_C_many pm_C_many an_C_many cd_C_many ct_C_many), sl_C_many⟩)
    (c_C_many : PySem.W.codeIn K cd_C_many "Rows.many" = true)
    (m_C_makes : PySem.W.findIn K (.ref C) "makes" = some (some (.ref f_C_makes)))
    (l_C_makes : K.lookup f_C_makes = some ⟨.type "function", od_C_makes, .func (PySem.W.fnOf "makes" "Rows.makes" (defArgs s_Rows_makes) (defBody s_Rows_makes) (defScope s_Rows_makes) .none kV_C_makes dc_C_makes pm_C_makes an_C_makes cd_C_makes ct_C_makes), sl_C_makes⟩)
    (c_C_makes : PySem.W.codeIn K cd_C_makes "Rows.makes" = true)
    (m_C_at : PySem.W.findIn K (.ref C) "at" = some (some (.ref f_C_at)))
    (l_C_at : K.lookup f_C_at = some ⟨.type "function", od_C_at, .func (PySem.W.fnOf "at" "Rows.at" (defArgs s_Rows_at) (defBody s_Rows_at) (defScope s_Rows_at) .none kV_C_at dc_C_at pm_C_at an_C_at cd_C_at ct_C_at), sl_C_at⟩)
    (c_C_at : PySem.W.codeIn K cd_C_at "Rows.at" = true)
    (m_C_row : PySem.W.findIn K (.ref C) "row" = some (some (.ref f_C_row)))
    (l_C_row : K.lookup f_C_row = some ⟨.type "function", od_C_row, .func (PySem.W.fnOf "row" "Rows.row" (defArgs s_Rows_row) (defBody s_Rows_row) (defScope s_Rows_row) .none kV_C_row dc_C_row pm_C_row an_C_row cd_C_row ct_C_row), sl_C_row⟩)
    (c_C_row : PySem.W.codeIn K cd_C_row "Rows.row" = true)
    (m_C_stretch : PySem.W.findIn K (.ref C) "stretch" = some (some (.ref f_C_stretch)))
    (l_C_stretch : K.lookup f_C_stretch = some ⟨.type "function", od_C_stretch, .func (PySem.W.fnOf "stretch" "Rows.stretch" (defArgs s_Rows_stretch) (defBody s_Rows_stretch) (defScope s_Rows_stretch) .none kV_C_stretch dc_C_stretch pm_C_stretch an_C_stretch cd_C_stretch ct_C_stretch), sl_C_stretch⟩)
    (c_C_stretch : PySem.W.codeIn K cd_C_stretch "Rows.stretch" = true)
    (m_C_writer : PySem.W.findIn K (.ref C) "writer" = some (some (.ref f_C_writer)))
    (l_C_writer : K.lookup f_C_writer = some ⟨.type "function", od_C_writer, .func (PySem.W.fnOf "writer" "Rows.writer" (defArgs s_Rows_writer) (defBody s_Rows_writer) (defScope s_Rows_writer) .none kV_C_writer dc_C_writer pm_C_writer an_C_writer cd_C_writer ct_C_writer), sl_C_writer⟩)
    (c_C_writer : PySem.W.codeIn K cd_C_writer "Rows.writer" = true)
    (m_C_place_of : PySem.W.findIn K (.ref C) "place_of" = some (some (.ref f_C_place_of)))
    (l_C_place_of : K.lookup f_C_place_of = some ⟨.type "function", od_C_place_of, .func (PySem.W.fnOf "place_of" "Rows.place_of" (defArgs s_Rows_place_of) (defBody s_Rows_place_of) (defScope s_Rows_place_of) .none kV_C_place_of dc_C_place_of pm_C_place_of an_C_place_of cd_C_place_of ct_C_place_of), sl_C_place_of⟩)
    (c_C_place_of : PySem.W.codeIn K cd_C_place_of "Rows.place_of" = true)
    (m_C_worths_in : PySem.W.findIn K (.ref C) "worths_in" = some (some (.ref f_C_worths_in)))
    (l_C_worths_in : K.lookup f_C_worths_in = some ⟨.type "function", od_C_worths_in, .func (PySem.W.fnOf "worths_in" "Rows.worths_in" (defArgs s_Rows_worths_in) (defBody s_Rows_worths_in) (defScope s_Rows_worths_in) .none kV_C_worths_in dc_C_worths_in pm_C_worths_in an_C_worths_in cd_C_worths_in ct_C_worths_in), sl_C_worths_in⟩)
    (c_C_worths_in : PySem.W.codeIn K cd_C_worths_in "Rows.worths_in" = true)
    (m_C_add_steps : PySem.W.findIn K (.ref C) "add_steps" = some (some (.ref f_C_add_steps)))
    (l_C_add_steps : K.lookup f_C_add_steps = some ⟨.type "function", od_C_add_steps, .func (PySem.W.fnOf "add_steps" "Rows.add_steps" (defArgs s_Rows_add_steps) (defBody s_Rows_add_steps) (defScope s_Rows_add_steps) .none kV_C_add_steps dc_C_add_steps pm_C_add_steps an_C_add_steps cd_C_add_steps ct_C_add_steps), sl_C_add_steps⟩)
    (c_C_add_steps : PySem.W.codeIn K cd_C_add_steps "Rows.add_steps" = true)
    (m_C_need_make : PySem.W.findIn K (.ref C) "need_make" = some (some (.ref f_C_need_make)))
    (l_C_need_make : K.lookup f_C_need_make = some ⟨.type "function", od_C_need_make, .func (PySem.W.fnOf "need_make" "Rows.need_make" (defArgs s_Rows_need_make) (defBody s_Rows_need_make) (defScope s_Rows_need_make) .none kV_C_need_make dc_C_need_make pm_C_need_make an_C_need_make cd_C_need_make ct_C_need_make), sl_C_need_make⟩)
    (c_C_need_make : PySem.W.codeIn K cd_C_need_make "Rows.need_make" = true)
    (m_C_need_place : PySem.W.findIn K (.ref C) "need_place" = some (some (.ref f_C_need_place)))
    (l_C_need_place : K.lookup f_C_need_place = some ⟨.type "function", od_C_need_place, .func (PySem.W.fnOf "need_place" "Rows.need_place" (defArgs s_Rows_need_place) (defBody s_Rows_need_place) (defScope s_Rows_need_place) .none kV_C_need_place dc_C_need_place pm_C_need_place an_C_need_place cd_C_need_place ct_C_need_place), sl_C_need_place⟩)
    (c_C_need_place : PySem.W.codeIn K cd_C_need_place "Rows.need_place" = true)
    (m_C_need_stretch : PySem.W.findIn K (.ref C) "need_stretch" = some (some (.ref f_C_need_stretch)))
    (l_C_need_stretch : K.lookup f_C_need_stretch = some ⟨.type "function", od_C_need_stretch, .func (PySem.W.fnOf "need_stretch" "Rows.need_stretch" (defArgs s_Rows_need_stretch) (defBody s_Rows_need_stretch) (defScope s_Rows_need_stretch) .none kV_C_need_stretch dc_C_need_stretch pm_C_need_stretch an_C_need_stretch cd_C_need_stretch ct_C_need_stretch), sl_C_need_stretch⟩)
    (c_C_need_stretch : PySem.W.codeIn K cd_C_need_stretch "Rows.need_stretch" = true)
    (m_C_row_need_there : PySem.W.findIn K (.ref C) "_row_need_there" = some (some (.ref f_C_row_need_there)))
    (l_C_row_need_there : K.lookup f_C_row_need_there = some ⟨.type "function", od_C_row_need_there, .func (PySem.W.fnOf "_row_need_there" "Rows._row_need_there" (defArgs s_Rows__row_need_there) (defBody s_Rows__row_need_there) (defScope s_Rows__row_need_there) .none kV_C_row_need_there dc_C_row_need_there pm_C_row_need_there an_C_row_need_there cd_C_row_need_there ct_C_row_need_there), sl_C_row_need_there⟩)
    (c_C_row_need_there : PySem.W.codeIn K cd_C_row_need_there "Rows._row_need_there" = true)
    (m_C_up_to_writer : PySem.W.findIn K (.ref C) "_up_to_writer" = some (some (.ref f_C_up_to_writer)))
    (l_C_up_to_writer : K.lookup f_C_up_to_writer = some ⟨.type "function", od_C_up_to_writer, .func (PySem.W.fnOf "_up_to_writer" "Rows._up_to_writer" (defArgs s_Rows__up_to_writer) (defBody s_Rows__up_to_writer) (defScope s_Rows__up_to_writer) .none kV_C_up_to_writer dc_C_up_to_writer pm_C_up_to_writer an_C_up_to_writer cd_C_up_to_writer ct_C_up_to_writer), sl_C_up_to_writer⟩)
    (c_C_up_to_writer : PySem.W.codeIn K cd_C_up_to_writer "Rows._up_to_writer" = true)
    (m_C_row_put : PySem.W.findIn K (.ref C) "_row_put" = some (some (.ref f_C_row_put)))
    (l_C_row_put : K.lookup f_C_row_put = some ⟨.type "function", od_C_row_put, .func (PySem.W.fnOf "_row_put" "Rows._row_put" (defArgs s_Rows__row_put) (defBody s_Rows__row_put) (defScope s_Rows__row_put) .none kV_C_row_put dc_C_row_put pm_C_row_put an_C_row_put cd_C_row_put ct_C_row_put), sl_C_row_put⟩)
    (c_C_row_put : PySem.W.codeIn K cd_C_row_put "Rows._row_put" = true)
    (m_C_row_need_room_for : PySem.W.findIn K (.ref C) "_row_need_room_for" = some (some (.ref f_C_row_need_room_for)))
    (l_C_row_need_room_for : K.lookup f_C_row_need_room_for = some ⟨.type "function", od_C_row_need_room_for, .func (PySem.W.fnOf "_row_need_room_for" "Rows._row_need_room_for" (defArgs s_Rows__row_need_room_for) (defBody s_Rows__row_need_room_for) (defScope s_Rows__row_need_room_for) .none kV_C_row_need_room_for dc_C_row_need_room_for pm_C_row_need_room_for an_C_row_need_room_for cd_C_row_need_room_for ct_C_row_need_room_for), sl_C_row_need_room_for⟩)
    (c_C_row_need_room_for : PySem.W.codeIn K cd_C_row_need_room_for "Rows._row_need_room_for" = true)
    (m_C_row_writers : PySem.W.findIn K (.ref C) "_row_writers" = some (some (.ref f_C_row_writers)))
    (l_C_row_writers : K.lookup f_C_row_writers = some ⟨.type "function", od_C_row_writers, .func (PySem.W.fnOf "_row_writers" "Rows._row_writers" (defArgs s_Rows__row_writers) (defBody s_Rows__row_writers) (defScope s_Rows__row_writers) .none kV_C_row_writers dc_C_row_writers pm_C_row_writers an_C_row_writers cd_C_row_writers ct_C_row_writers), sl_C_row_writers⟩)
    (c_C_row_writers : PySem.W.codeIn K cd_C_row_writers "Rows._row_writers" = true)
    (m_C_needed_no_more : PySem.W.findIn K (.ref C) "_needed_no_more" = some (some (.ref f_C_needed_no_more)))
    (l_C_needed_no_more : K.lookup f_C_needed_no_more = some ⟨.type "function", od_C_needed_no_more, .func (PySem.W.fnOf "_needed_no_more" "Rows._needed_no_more" (defArgs s_Rows__needed_no_more) (defBody s_Rows__needed_no_more) (defScope s_Rows__needed_no_more) .none kV_C_needed_no_more dc_C_needed_no_more pm_C_needed_no_more an_C_needed_no_more cd_C_needed_no_more ct_C_needed_no_more), sl_C_needed_no_more⟩)
    (c_C_needed_no_more : PySem.W.codeIn K cd_C_needed_no_more "Rows._needed_no_more" = true)
    (m_C_put : PySem.W.findIn K (.ref C) "put" = some (some (.ref f_C_put)))
    (l_C_put : K.lookup f_C_put = some ⟨.type "function", od_C_put, .func (PySem.W.fnOf "put" "Rows.put" (defArgs s_Rows_put) (defBody s_Rows_put) (defScope s_Rows_put) .none kV_C_put dc_C_put pm_C_put an_C_put cd_C_put ct_C_put), sl_C_put⟩)
    (c_C_put : PySem.W.codeIn K cd_C_put "Rows.put" = true)
    (m_C_need_new : PySem.W.findIn K (.ref C) "need_new" = some (some (.ref f_C_need_new)))
    (l_C_need_new : K.lookup f_C_need_new = some ⟨.type "function", od_C_need_new, .func (PySem.W.fnOf "need_new" "Rows.need_new" (defArgs s_Rows_need_new) (defBody s_Rows_need_new) (defScope s_Rows_need_new) .none kV_C_need_new dc_C_need_new pm_C_need_new an_C_need_new cd_C_need_new ct_C_need_new), sl_C_need_new⟩)
    (c_C_need_new : PySem.W.codeIn K cd_C_need_new "Rows.need_new" = true)
    (m_C_begin : PySem.W.findIn K (.ref C) "begin" = some (some (.ref f_C_begin)))
    (l_C_begin : K.lookup f_C_begin = some ⟨.type "function", od_C_begin, .func (PySem.W.fnOf "begin" "Boxed.begin" (defArgs s_Boxed_begin) (defBody s_Boxed_begin) (defScope s_Boxed_begin) .none kV_C_begin dc_C_begin pm_C_begin an_C_begin cd_C_begin ct_C_begin), sl_C_begin⟩)
    (c_C_begin : PySem.W.codeIn K cd_C_begin "Boxed.begin" = true)
    (m_C_store : PySem.W.findIn K (.ref C) "store" = some (some (.ref f_C_store)))
    (l_C_store : K.lookup f_C_store = some ⟨.type "function", od_C_store, .func (PySem.W.fnOf "store" "Boxed.store" (defArgs s_Boxed_store) (defBody s_Boxed_store) (defScope s_Boxed_store) .none kV_C_store dc_C_store pm_C_store an_C_store cd_C_store ct_C_store), sl_C_store⟩)
    (c_C_store : PySem.W.codeIn K cd_C_store "Boxed.store" = true)
    (m_C_looked : PySem.W.findIn K (.ref C) "looked" = some (some (.ref f_C_looked)))
    (l_C_looked : K.lookup f_C_looked = some ⟨.type "function", od_C_looked, .func (PySem.W.fnOf "looked" "Boxed.looked" (defArgs s_Boxed_looked) (defBody s_Boxed_looked) (defScope s_Boxed_looked) .none kV_C_looked dc_C_looked pm_C_looked an_C_looked cd_C_looked ct_C_looked), sl_C_looked⟩)
    (c_C_looked : PySem.W.codeIn K cd_C_looked "Boxed.looked" = true)
    (m_C_freed : PySem.W.findIn K (.ref C) "freed" = some (some (.ref f_C_freed)))
    (l_C_freed : K.lookup f_C_freed = some ⟨.type "function", od_C_freed, .func (PySem.W.fnOf "freed" "Boxed.freed" (defArgs s_Boxed_freed) (defBody s_Boxed_freed) (defScope s_Boxed_freed) .none kV_C_freed dc_C_freed pm_C_freed an_C_freed cd_C_freed ct_C_freed), sl_C_freed⟩)
    (c_C_freed : PySem.W.codeIn K cd_C_freed "Boxed.freed" = true)
    (m_C_box : PySem.W.findIn K (.ref C) "box" = some (some (.ref f_C_box)))
    (l_C_box : K.lookup f_C_box = some ⟨.type "function", od_C_box, .func (PySem.W.fnOf "box" "Boxed.box" (defArgs s_Boxed_box) (defBody s_Boxed_box) (defScope s_Boxed_box) .none kV_C_box dc_C_box pm_C_box an_C_box cd_C_box ct_C_box), sl_C_box⟩)
    (c_C_box : PySem.W.codeIn K cd_C_box "Boxed.box" = true)
    (m_C_room : PySem.W.findIn K (.ref C) "room" = some (some (.ref f_C_room)))
    (l_C_room : K.lookup f_C_room = some ⟨.type "function", od_C_room, .func (PySem.W.fnOf "room" "Boxed.room" (defArgs s_Boxed_room) (defBody s_Boxed_room) (defScope s_Boxed_room) .none kV_C_room dc_C_room pm_C_room an_C_room cd_C_room ct_C_room), sl_C_room⟩)
    (c_C_room : PySem.W.codeIn K cd_C_room "Boxed.room" = true)
    (m_C_in_order : PySem.W.findIn K (.ref C) "in_order" = some (some (.ref f_C_in_order)))
    (l_C_in_order : K.lookup f_C_in_order = some ⟨.type "function", od_C_in_order, .func (PySem.W.fnOf "in_order" "Boxed.in_order" (defArgs s_Boxed_in_order) (defBody s_Boxed_in_order) (defScope s_Boxed_in_order) .none kV_C_in_order dc_C_in_order pm_C_in_order an_C_in_order cd_C_in_order ct_C_in_order), sl_C_in_order⟩)
    (c_C_in_order : PySem.W.codeIn K cd_C_in_order "Boxed.in_order" = true)
    (m_C_found : PySem.W.findIn K (.ref C) "_found" = some (some (.ref f_C_found)))
    (l_C_found : K.lookup f_C_found = some ⟨.type "function", od_C_found, .func (PySem.W.fnOf "_found" "Boxed._found" (defArgs s_Boxed__found) (defBody s_Boxed__found) (defScope s_Boxed__found) .none kV_C_found dc_C_found pm_C_found an_C_found cd_C_found ct_C_found), sl_C_found⟩)
    (c_C_found : PySem.W.codeIn K cd_C_found "Boxed._found" = true)
    (m_C_turn_of_each : PySem.W.findIn K (.ref C) "_turn_of_each" = some (some (.ref f_C_turn_of_each)))
    (l_C_turn_of_each : K.lookup f_C_turn_of_each = some ⟨.type "function", od_C_turn_of_each, .func (PySem.W.fnOf "_turn_of_each" "Boxed._turn_of_each" (defArgs s_Boxed__turn_of_each) (defBody s_Boxed__turn_of_each) (defScope s_Boxed__turn_of_each) .none kV_C_turn_of_each dc_C_turn_of_each pm_C_turn_of_each an_C_turn_of_each cd_C_turn_of_each ct_C_turn_of_each), sl_C_turn_of_each⟩)
    (c_C_turn_of_each : PySem.W.codeIn K cd_C_turn_of_each "Boxed._turn_of_each" = true)
    (a_CR : PySem.W.nsIn K mainGlobals "Rows" = some (some (.ref CR)))
    (m_CR_let_go : PySem.W.findIn K (.ref CR) "let_go" = some (some (.ref f_CR_let_go)))
    (l_CR_let_go : K.lookup f_CR_let_go = some ⟨.type "function", od_CR_let_go, .func (PySem.W.fnOf "let_go" "Rows.let_go" (defArgs s_Rows_let_go) (defBody s_Rows_let_go) (defScope s_Rows_let_go) .none kV_CR_let_go dc_CR_let_go pm_CR_let_go an_CR_let_go cd_CR_let_go ct_CR_let_go), sl_CR_let_go⟩)
    (c_CR_let_go : PySem.W.codeIn K cd_CR_let_go "Rows.let_go" = true)
    (x_C : K.lookup C = some ⟨xc_C, xd_C, .cls ic_C, xs_C⟩)
    (mm_C : PySem.W.mroIn K C (.ref C) = some true)
    (m_C_let_go : PySem.W.findIn K (.ref C) "let_go" = some (some (.ref f_C_let_go)))
    (l_C_let_go : K.lookup f_C_let_go = some ⟨.type "function", od_C_let_go, .func (PySem.W.ksFn "let_go" "Boxed.let_go" (defArgs s_Boxed_let_go) (defBody s_Boxed_let_go) (defScope s_Boxed_let_go) .none .none dc_C_let_go pm_C_let_go an_C_let_go (.ref co_C_let_go) ct_C_let_go cc_C_let_go), sl_C_let_go⟩)
    (c_C_let_go : PySem.W.codeIn K (.ref co_C_let_go) "Boxed.let_go" = true)
    (dl_C_let_go : K.lookup co_C_let_go = some ⟨ccl_C_let_go, cdd_C_let_go, .fields vs_C_let_go, ccs_C_let_go⟩)
    (fv_C_let_go : vs_C_let_go[2]? = some (.str file_C_let_go tf_C_let_go))
    (fl_C_let_go : ((l.prog.main.file : Str) == file_C_let_go) = true)
    (zc_C_let_go : K.lookup cc_C_let_go = some ⟨cv_C_let_go, cld_C_let_go, .cell (some (.ref C)), csl_C_let_go⟩)
    (su_C_let_go : PySem.W.ks_superIn K C C "let_go" = some (some (.ref f_CR_let_go)))
    (aE : PySem.W.nsIn K mainGlobals "MakesError" = some (some (.ref CE)))
    (iE : PySem.W.isClsIn K CE = true)
    (yE : PySem.W.typeIn K (.ref CE) = some (.type "type"))
    (eE : PySem.W.subIn K (.ref CE) (.type "BaseException") = some true)
    (aA : PySem.W.nsIn K mainGlobals "Alone" = some (some (.ref CA)))
    (xA : K.lookup CA = some (excClassObj nmA qA CA NA bsA [.ref CE, .type "ValueError", .type "Exception", .type "BaseException", .type "object"] true snA subA abA colA ddA m0A m1A m2A m3A m5A "ValueError.__new__"))
    (saA : PySem.W.findIn K (.ref CA) "__setattr__" = some (some (.builtin "object.__setattr__")))
    (gaA : PySem.W.findIn K (.ref CA) "__getattribute__" = some (some (.builtin "BaseException.__getattribute__")))
    (ggA : PySem.W.findIn K (.ref CA) "__getattr__" = some none)
    (nnA : PySem.W.findIn K (.ref CA) "found" = some none)
    (iiA : PySem.W.findIn K (.ref CA) "__init__" = some (some (.ref fA)))
    (kkA : PySem.W.keepIn K (.ref CA) = true)
    (eeA : PySem.W.subIn K (.ref CA) (.type "BaseException") = some true)
    (veA : PySem.W.subIn K (.ref CA) (.type "ValueError") = some true)
    (tyA : PySem.W.typeIn K (.ref CA) = some (.type "type"))
    (hdA : PySem.W.hasDictIn K CA = true)
    (mmA : PySem.W.mroIn K CA (.ref CA) = some true)
    (suA : PySem.W.ks_superIn K CA CA "__init__" = some (some (.builtin "ValueError.__init__")))
    (llA : K.lookup fA = some ⟨.type "function", odA, .func (PySem.W.ksFn "__init__" "Alone.__init__" (Ge.iA r1A r2A) (Ge.iB "there is no other one" kdA p1A p2A p3A p4A p5A p6A q1A q2A q3A q4A) Ge.iS .none .none dcA pmA anA (.ref cdaA) ctA ccA), slA⟩)
    (ciA : PySem.W.codeIn K (.ref cdaA) "Alone.__init__" = true)
    (dlA : K.lookup cdaA = some ⟨cclA, cddA, .fields vsA, ccsA⟩)
    (fvA : vsA[2]? = some (.str fileA tfA))
    (flA : ((l.prog.main.file : Str) == fileA) = true)
    (zcA : K.lookup ccA = some ⟨clA, cldA, .cell (some (.ref CA)), cslA⟩)
    (plA : (p3A.endLine == p5A.line) = true)
    (h1A : PySem.W.findIn K (.ref CA) "__class__" = some (some (.builtin "object.__class__")))
    (h2A : PySem.W.specialIn K (.builtin "object.__class__") "__get__" = some (some (.builtin "getset_descriptor.__get__")))
    (h3A : PySem.W.takesIn K (.builtin "object.__class__") = some true)
    (h4A : PySem.W.mroIn K CA (.type "object") = some true)
    (smA : PySem.W.subIn K (.ref CA) (.ref CE) = some true)
    (aN : PySem.W.nsIn K mainGlobals "NoMake" = some (some (.ref CN)))
    (xN : K.lookup CN = some (excClassObj nmN qN CN NN bsN [.ref CE, .type "ValueError", .type "Exception", .type "BaseException", .type "object"] true snN subN abN colN ddN m0N m1N m2N m3N m5N "ValueError.__new__"))
    (saN : PySem.W.findIn K (.ref CN) "__setattr__" = some (some (.builtin "object.__setattr__")))
    (gaN : PySem.W.findIn K (.ref CN) "__getattribute__" = some (some (.builtin "BaseException.__getattribute__")))
    (ggN : PySem.W.findIn K (.ref CN) "__getattr__" = some none)
    (nnN : PySem.W.findIn K (.ref CN) "found" = some none)
    (iiN : PySem.W.findIn K (.ref CN) "__init__" = some (some (.ref fN)))
    (kkN : PySem.W.keepIn K (.ref CN) = true)
    (eeN : PySem.W.subIn K (.ref CN) (.type "BaseException") = some true)
    (veN : PySem.W.subIn K (.ref CN) (.type "ValueError") = some true)
    (tyN : PySem.W.typeIn K (.ref CN) = some (.type "type"))
    (hdN : PySem.W.hasDictIn K CN = true)
    (mmN : PySem.W.mroIn K CN (.ref CN) = some true)
    (suN : PySem.W.ks_superIn K CN CN "__init__" = some (some (.builtin "ValueError.__init__")))
    (llN : K.lookup fN = some ⟨.type "function", odN, .func (PySem.W.ksFn "__init__" "NoMake.__init__" (Ge.iA r1N r2N) (Ge.iB "this is no make" kdN p1N p2N p3N p4N p5N p6N q1N q2N q3N q4N) Ge.iS .none .none dcN pmN anN (.ref cdaN) ctN ccN), slN⟩)
    (ciN : PySem.W.codeIn K (.ref cdaN) "NoMake.__init__" = true)
    (dlN : K.lookup cdaN = some ⟨cclN, cddN, .fields vsN, ccsN⟩)
    (fvN : vsN[2]? = some (.str fileN tfN))
    (flN : ((l.prog.main.file : Str) == fileN) = true)
    (zcN : K.lookup ccN = some ⟨clN, cldN, .cell (some (.ref CN)), cslN⟩)
    (plN : (p3N.endLine == p5N.line) = true)
    (h1N : PySem.W.findIn K (.ref CN) "__class__" = some (some (.builtin "object.__class__")))
    (h2N : PySem.W.specialIn K (.builtin "object.__class__") "__get__" = some (some (.builtin "getset_descriptor.__get__")))
    (h3N : PySem.W.takesIn K (.builtin "object.__class__") = some true)
    (h4N : PySem.W.mroIn K CN (.type "object") = some true)
    (smN : PySem.W.subIn K (.ref CN) (.ref CE) = some true)
    (aP : PySem.W.nsIn K mainGlobals "NoPlace" = some (some (.ref CP)))
    (xP : K.lookup CP = some (excClassObj nmP qP CP NP bsP [.ref CE, .type "ValueError", .type "Exception", .type "BaseException", .type "object"] true snP subP abP colP ddP m0P m1P m2P m3P m5P "ValueError.__new__"))
    (saP : PySem.W.findIn K (.ref CP) "__setattr__" = some (some (.builtin "object.__setattr__")))
    (gaP : PySem.W.findIn K (.ref CP) "__getattribute__" = some (some (.builtin "BaseException.__getattribute__")))
    (ggP : PySem.W.findIn K (.ref CP) "__getattr__" = some none)
    (nnP : PySem.W.findIn K (.ref CP) "found" = some none)
    (iiP : PySem.W.findIn K (.ref CP) "__init__" = some (some (.ref fP)))
    (kkP : PySem.W.keepIn K (.ref CP) = true)
    (eeP : PySem.W.subIn K (.ref CP) (.type "BaseException") = some true)
    (veP : PySem.W.subIn K (.ref CP) (.type "ValueError") = some true)
    (tyP : PySem.W.typeIn K (.ref CP) = some (.type "type"))
    (hdP : PySem.W.hasDictIn K CP = true)
    (mmP : PySem.W.mroIn K CP (.ref CP) = some true)
    (suP : PySem.W.ks_superIn K CP CP "__init__" = some (some (.builtin "ValueError.__init__")))
    (llP : K.lookup fP = some ⟨.type "function", odP, .func (PySem.W.ksFn "__init__" "NoPlace.__init__" (Ge.iA r1P r2P) (Ge.iB "this is no place" kdP p1P p2P p3P p4P p5P p6P q1P q2P q3P q4P) Ge.iS .none .none dcP pmP anP (.ref cdaP) ctP ccP), slP⟩)
    (ciP : PySem.W.codeIn K (.ref cdaP) "NoPlace.__init__" = true)
    (dlP : K.lookup cdaP = some ⟨cclP, cddP, .fields vsP, ccsP⟩)
    (fvP : vsP[2]? = some (.str fileP tfP))
    (flP : ((l.prog.main.file : Str) == fileP) = true)
    (zcP : K.lookup ccP = some ⟨clP, cldP, .cell (some (.ref CP)), cslP⟩)
    (plP : (p3P.endLine == p5P.line) = true)
    (h1P : PySem.W.findIn K (.ref CP) "__class__" = some (some (.builtin "object.__class__")))
    (h2P : PySem.W.specialIn K (.builtin "object.__class__") "__get__" = some (some (.builtin "getset_descriptor.__get__")))
    (h3P : PySem.W.takesIn K (.builtin "object.__class__") = some true)
    (h4P : PySem.W.mroIn K CP (.type "object") = some true)
    (smP : PySem.W.subIn K (.ref CP) (.ref CE) = some true)
    (aS : PySem.W.nsIn K mainGlobals "NoStretch" = some (some (.ref CS)))
    (xS : K.lookup CS = some (excClassObj nmS qS CS NS bsS [.ref CE, .type "ValueError", .type "Exception", .type "BaseException", .type "object"] true snS subS abS colS ddS m0S m1S m2S m3S m5S "ValueError.__new__"))
    (saS : PySem.W.findIn K (.ref CS) "__setattr__" = some (some (.builtin "object.__setattr__")))
    (gaS : PySem.W.findIn K (.ref CS) "__getattribute__" = some (some (.builtin "BaseException.__getattribute__")))
    (ggS : PySem.W.findIn K (.ref CS) "__getattr__" = some none)
    (nnS : PySem.W.findIn K (.ref CS) "low" = some none)
    (iiS : PySem.W.findIn K (.ref CS) "__init__" = some (some (.ref fS)))
    (kkS : PySem.W.keepIn K (.ref CS) = true)
    (eeS : PySem.W.subIn K (.ref CS) (.type "BaseException") = some true)
    (veS : PySem.W.subIn K (.ref CS) (.type "ValueError") = some true)
    (tyS : PySem.W.typeIn K (.ref CS) = some (.type "type"))
    (hdS : PySem.W.hasDictIn K CS = true)
    (mmS : PySem.W.mroIn K CS (.ref CS) = some true)
    (suS : PySem.W.ks_superIn K CS CS "__init__" = some (some (.builtin "ValueError.__init__")))
    (llS : K.lookup fS = some ⟨.type "function", odS, .func (PySem.W.ksFn "__init__" "NoStretch.__init__" (Gr.iA r1S r2S r3S) (Gr.iB "these two are no stretch" kdS p1S p2S p3S p4S p5S p6S q1S q2S q3S q4S t1S t2S t3S t4S) Gr.iS .none .none dcS pmS anS (.ref cdaS) ctS ccS), slS⟩)
    (ciS : PySem.W.codeIn K (.ref cdaS) "NoStretch.__init__" = true)
    (dlS : K.lookup cdaS = some ⟨cclS, cddS, .fields vsS, ccsS⟩)
    (fvS : vsS[2]? = some (.str fileS tfS))
    (flS : ((l.prog.main.file : Str) == fileS) = true)
    (zcS : K.lookup ccS = some ⟨clS, cldS, .cell (some (.ref CS)), cslS⟩)
    (plS : (p3S.endLine == p5S.line) = true)
    (h1S : PySem.W.findIn K (.ref CS) "__class__" = some (some (.builtin "object.__class__")))
    (h2S : PySem.W.specialIn K (.builtin "object.__class__") "__get__" = some (some (.builtin "getset_descriptor.__get__")))
    (h3S : PySem.W.takesIn K (.builtin "object.__class__") = some true)
    (h4S : PySem.W.mroIn K CS (.type "object") = some true)
    (smS : PySem.W.subIn K (.ref CS) (.ref CE) = some true)
    (noS : PySem.W.findIn K (.ref CS) "high" = some none)
    (ktNA : PySem.W.kitOne K (.ref CN) (.ref CA) = some false)
    (ktPA : PySem.W.kitOne K (.ref CP) (.ref CA) = some false)
    (ktPN : PySem.W.kitOne K (.ref CP) (.ref CN) = some false)
    (ktSA : PySem.W.kitOne K (.ref CS) (.ref CA) = some false)
    (ktSN : PySem.W.kitOne K (.ref CS) (.ref CN) = some false)
    (ktSP : PySem.W.kitOne K (.ref CS) (.ref CP) = some false)
    : ∃ fd : FuncData, (∀ (s : Shared) (v : Value), BindsTo s fd ⟨[v], []⟩ [("_law_script", v)]) ∧ ∀ base : Heap, K.In base → base.Ns mainGlobals mg → FnG l.prog w K mg base CX0 25 fa fd ["_law_script"] (spLaw K) := by
  have e := hfa.symm.trans (PySem.W.mg_of X G a24)
  cases e
  have k0 := keep_fn l0
  have y0 := isFn_fn l0
  have d_found_by_halving : DefAt K mg "found_by_halving" s_found_by_halving ["stands", "stand"] := defAt (PySem.W.mg_of X G a0) l0 c0 k0 (fun _ _ _ _ _ _ us hl => match us, hl with | [_, _], _ => rfl)
  have k1 := keep_fn l1
  have y1 := isFn_fn l1
  have d_is_whole : DefAt K mg "is_whole" s_is_whole ["thing", "low", "high"] := defAt (PySem.W.mg_of X G a1) l1 c1 k1 (fun _ _ _ _ _ _ us hl => match us, hl with | [_, _, _], _ => rfl)
  have k2 := keep_fn l2
  have y2 := isFn_fn l2
  have d_is_worth : DefAt K mg "is_worth" s_is_worth ["thing"] := defAt (PySem.W.mg_of X G a2) l2 c2 k2 (fun _ _ _ _ _ _ us hl => match us, hl with | [_], _ => rfl)
  have k3 := keep_fn l3
  have y3 := isFn_fn l3
  have d_is_worths : DefAt K mg "is_worths" s_is_worths ["thing"] := defAt (PySem.W.mg_of X G a3) l3 c3 k3 (fun _ _ _ _ _ _ us hl => match us, hl with | [_], _ => rfl)
  have k4 := keep_fn l4
  have y4 := isFn_fn l4
  have d__first_of_runs : DefAt K mg "_first_of_runs" s__first_of_runs ["turns"] := defAt (PySem.W.mg_of X G a4) l4 c4 k4 (fun _ _ _ _ _ _ us hl => match us, hl with | [_], _ => rfl)
  have k5 := keep_fn l5
  have y5 := isFn_fn l5
  have d__law_cell_at : DefAt K mg "_law_cell_at" s__law_cell_at ["_law_script", "_law_k"] := defAt (PySem.W.mg_of X G a5) l5 c5 k5 (fun _ _ _ _ _ _ us hl => match us, hl with | [_, _], _ => rfl)
  have k6 := keep_fn l6
  have y6 := isFn_fn l6
  have d__law_box : DefAt K mg "_law_box" s__law_box ["_law_cell"] := defAt (PySem.W.mg_of X G a6) l6 c6 k6 (fun _ _ _ _ _ _ us hl => match us, hl with | [_], _ => rfl)
  have k7 := keep_fn l7
  have y7 := isFn_fn l7
  have d__law_take : DefAt K mg "_law_take" s__law_take ["_law_box_here", "_law_many"] := defAt (PySem.W.mg_of X G a7) l7 c7 k7 (fun _ _ _ _ _ _ us hl => match us, hl with | [_, _], _ => rfl)
  have k8 := keep_fn l8
  have y8 := isFn_fn l8
  have d__law_worth : DefAt K mg "_law_worth" s__law_worth ["_law_box_here"] := defAt (PySem.W.mg_of X G a8) l8 c8 k8 (fun _ _ _ _ _ _ us hl => match us, hl with | [_], _ => rfl)
  have k9 := keep_fn l9
  have y9 := isFn_fn l9
  have d__law_worths : DefAt K mg "_law_worths" s__law_worths ["_law_box_here"] := defAt (PySem.W.mg_of X G a9) l9 c9 k9 (fun _ _ _ _ _ _ us hl => match us, hl with | [_], _ => rfl)
  have k10 := keep_fn l10
  have y10 := isFn_fn l10
  have d__law_model : DefAt K mg "_law_model" s__law_model ["_law_worths_here"] := defAt (PySem.W.mg_of X G a10) l10 c10 k10 (fun _ _ _ _ _ _ us hl => match us, hl with | [_], _ => rfl)
  have k11 := keep_fn l11
  have y11 := isFn_fn l11
  have d__law_written : DefAt K mg "_law_written" s__law_written ["_law_model_here", "_law_make", "_law_place", "_law_worth_here"] := defAt (PySem.W.mg_of X G a11) l11 c11 k11 (fun _ _ _ _ _ _ us hl => match us, hl with | [_, _, _, _], _ => rfl)
  have k12 := keep_fn l12
  have y12 := isFn_fn l12
  have d__law_one_of : DefAt K mg "_law_one_of" s__law_one_of ["_law_box_here", "_law_some"] := defAt (PySem.W.mg_of X G a12) l12 c12 k12 (fun _ _ _ _ _ _ us hl => match us, hl with | [_, _], _ => rfl)
  have k13 := keep_fn l13
  have y13 := isFn_fn l13
  have d__law_last : DefAt K mg "_law_last" s__law_last ["_law_model_here", "_law_make", "_law_place"] := defAt (PySem.W.mg_of X G a13) l13 c13 k13 (fun _ _ _ _ _ _ us hl => match us, hl with | [_, _, _], _ => rfl)
  have k14 := keep_fn l14
  have y14 := isFn_fn l14
  have d__law_put : DefAt K mg "_law_put" s__law_put ["_law_box_here", "_law_model_here", "_law_size"] := defAt (PySem.W.mg_of X G a14) l14 c14 k14 (fun _ _ _ _ _ _ us hl => match us, hl with | [_, _, _], _ => rfl)
  have k15 := keep_fn l15
  have y15 := isFn_fn l15
  have d__law_come : DefAt K mg "_law_come" s__law_come ["_law_model_here"] := defAt (PySem.W.mg_of X G a15) l15 c15 k15 (fun _ _ _ _ _ _ us hl => match us, hl with | [_], _ => rfl)
  have k16 := keep_fn l16
  have y16 := isFn_fn l16
  have d__law_runs : DefAt K mg "_law_runs" s__law_runs ["_law_model_here", "_law_place"] := defAt (PySem.W.mg_of X G a16) l16 c16 k16 (fun _ _ _ _ _ _ us hl => match us, hl with | [_, _], _ => rfl)
  have k17 := keep_fn l17
  have y17 := isFn_fn l17
  have d__law_reads : DefAt K mg "_law_reads" s__law_reads ["_law_model_here", "_law_make"] := defAt (PySem.W.mg_of X G a17) l17 c17 k17 (fun _ _ _ _ _ _ us hl => match us, hl with | [_, _], _ => rfl)
  have k18 := keep_fn l18
  have y18 := isFn_fn l18
  have d__law_caught : DefAt K mg "_law_caught" s__law_caught ["_law_e"] := defAt (PySem.W.mg_of X G a18) l18 c18 k18 (fun _ _ _ _ _ _ us hl => match us, hl with | [_], _ => rfl)
  have k19 := keep_fn l19
  have y19 := isFn_fn l19
  have d__law_told : DefAt K mg "_law_told" s__law_told ["_law_boxed", "_law_make"] := defAt (PySem.W.mg_of X G a19) l19 c19 k19 (fun _ _ _ _ _ _ us hl => match us, hl with | [_, _], _ => rfl)
  have k20 := keep_fn l20
  have y20 := isFn_fn l20
  have d__law_ask : DefAt K mg "_law_ask" s__law_ask ["_law_rows", "_law_way", "_law_things"] := defAt (PySem.W.mg_of X G a20) l20 c20 k20 (fun _ _ _ _ _ _ us hl => match us, hl with | [_, _, _], _ => rfl)
  have k21 := keep_fn l21
  have y21 := isFn_fn l21
  have d__law_bad_ask : DefAt K mg "_law_bad_ask" s__law_bad_ask ["_law_box_here", "_law_rows", "_law_size"] := defAt (PySem.W.mg_of X G a21) l21 c21 k21 (fun _ _ _ _ _ _ us hl => match us, hl with | [_, _, _], _ => rfl)
  have k22 := keep_fn l22
  have y22 := isFn_fn l22
  have d__law_asks_refused : DefAt K mg "_law_asks_refused" s__law_asks_refused ["_law_box_here", "_law_rows", "_law_size"] := defAt (PySem.W.mg_of X G a22) l22 c22 k22 (fun _ _ _ _ _ _ us hl => match us, hl with | [_, _, _], _ => rfl)
  have k23 := keep_fn l23
  have y23 := isFn_fn l23
  have d__law_let_go : DefAt K mg "_law_let_go" s__law_let_go ["_law_boxed", "_law_model_here", "_law_make"] := defAt (PySem.W.mg_of X G a23) l23 c23 k23 (fun _ _ _ _ _ _ us hl => match us, hl with | [_, _, _], _ => rfl)
  have k24 := keep_fn l24
  have y24 := isFn_fn l24
  have F_law := fun_mk (st := s_law) l24 c24 k24
  have cl_CL : Cls K CL := ⟨pg_CL, hd_CL, po_CL, sa_CL⟩
  have k_CM_many := keep_fn l_CM_many
  have y_CM_many := isFn_fn l_CM_many
  have F_CM_many := fun_mk (st := s_MakeTree_many) l_CM_many c_CM_many k_CM_many
  have B_CM_many : Binds K _ ["self"] [] := F_CM_many.binds (ps := ["self"]) (fun _ _ _ _ _ _ us hl => match us, hl with | [_], _ => rfl)
  have M_CM_many_CL : MAt K CL "many" "MakeTree.many" s_MakeTree_many ["self"] := ⟨_, _, F_CM_many, ⟨m_CM_many_CL, y_CM_many, k_CM_many⟩, B_CM_many⟩
  have k_CM_need_make := keep_fn l_CM_need_make
  have y_CM_need_make := isFn_fn l_CM_need_make
  have F_CM_need_make := fun_mk (st := s_MakeTree__need_make) l_CM_need_make c_CM_need_make k_CM_need_make
  have B_CM_need_make : Binds K _ ["self", "make"] [] := F_CM_need_make.binds (ps := ["self", "make"]) (fun _ _ _ _ _ _ us hl => match us, hl with | [_, _], _ => rfl)
  have M_CM_need_make_CL : MAt K CL "_need_make" "MakeTree._need_make" s_MakeTree__need_make ["self", "make"] := ⟨_, _, F_CM_need_make, ⟨m_CM_need_make_CL, y_CM_need_make, k_CM_need_make⟩, B_CM_need_make⟩
  have k_CM_own := keep_fn l_CM_own
  have y_CM_own := isFn_fn l_CM_own
  have F_CM_own := fun_mk (st := s_MakeTree_own) l_CM_own c_CM_own k_CM_own
  have B_CM_own : Binds K _ ["self", "make"] [] := F_CM_own.binds (ps := ["self", "make"]) (fun _ _ _ _ _ _ us hl => match us, hl with | [_, _], _ => rfl)
  have M_CM_own_CL : MAt K CL "own" "MakeTree.own" s_MakeTree_own ["self", "make"] := ⟨_, _, F_CM_own, ⟨m_CM_own_CL, y_CM_own, k_CM_own⟩, B_CM_own⟩
  have k_CM_line := keep_fn l_CM_line
  have y_CM_line := isFn_fn l_CM_line
  have F_CM_line := fun_mk (st := s_MakeTree_line) l_CM_line c_CM_line k_CM_line
  have B_CM_line : Binds K _ ["self", "make"] [] := F_CM_line.binds (ps := ["self", "make"]) (fun _ _ _ _ _ _ us hl => match us, hl with | [_, _], _ => rfl)
  have M_CM_line_CL : MAt K CL "line" "MakeTree.line" s_MakeTree_line ["self", "make"] := ⟨_, _, F_CM_line, ⟨m_CM_line_CL, y_CM_line, k_CM_line⟩, B_CM_line⟩
  have k_CM_grow := keep_fn l_CM_grow
  have y_CM_grow := isFn_fn l_CM_grow
  have F_CM_grow := fun_mk (st := s_MakeTree_grow) l_CM_grow c_CM_grow k_CM_grow
  have B_CM_grow : Binds K _ ["self", "make"] [] := F_CM_grow.binds (ps := ["self", "make"]) (fun _ _ _ _ _ _ us hl => match us, hl with | [_, _], _ => rfl)
  have k_CM_init := keep_fn l_CM_init
  have y_CM_init := isFn_fn l_CM_init
  have F_CM_init := fun_mk (st := s_MakeTree___init__) l_CM_init c_CM_init k_CM_init
  have B_CM_init : Binds K _ ["self"] [] := F_CM_init.binds (ps := ["self"]) (fun _ _ _ _ _ _ us hl => match us, hl with | [_], _ => rfl)
  have k_CL_leaps_through := keep_fn l_CL_leaps_through
  have y_CL_leaps_through := isFn_fn l_CL_leaps_through
  have F_CL_leaps_through := fun_mk (st := s_LeapTree__leaps_through) l_CL_leaps_through c_CL_leaps_through k_CL_leaps_through
  have B_CL_leaps_through : Binds K _ ["self", "own"] [] := F_CL_leaps_through.binds (ps := ["self", "own"]) (fun _ _ _ _ _ _ us hl => match us, hl with | [_, _], _ => rfl)
  have M_CL_leaps_through : MAt K CL "_leaps_through" "LeapTree._leaps_through" s_LeapTree__leaps_through ["self", "own"] := ⟨_, _, F_CL_leaps_through, ⟨m_CL_leaps_through, y_CL_leaps_through, k_CL_leaps_through⟩, B_CL_leaps_through⟩
  have k_CL_grow := keep_fn l_CL_grow
  have y_CL_grow := isFn_fn l_CL_grow
  have S_CL_grow : SAt l.prog K CL "grow" "LeapTree.grow" s_LeapTree_grow ["self", "make"] f_CM_grow := ⟨f_CL_grow, cc_CL_grow, co_CL_grow, .type "function", od_CL_grow, dc_CL_grow, pm_CL_grow, an_CL_grow, ct_CL_grow, sl_CL_grow,
    { fn := ⟨.type "function", od_CL_grow, dc_CL_grow, pm_CL_grow, an_CL_grow, ct_CL_grow, sl_CL_grow, l_CL_grow⟩, cl := rfl, code := c_CL_grow, cod := ⟨ccl_CL_grow, cdd_CL_grow, vs_CL_grow, ccs_CL_grow, file_CL_grow, tf_CL_grow, dl_CL_grow, fv_CL_grow, fl_CL_grow⟩, cell := ⟨cv_CL_grow, cld_CL_grow, csl_CL_grow, zc_CL_grow⟩, isD := ⟨ic_CL, by simp [PySem.W.clsIn, x_CL]⟩, sub := mm_CL, sup := su_CL_grow, ty := type_fn l_CM_grow, fg := fnIn_fn l_CM_grow, op := op, zs := zs, htop := htop,
      hm := by decide, hks := by rfl, hkc := by rfl, hself := by rfl, arg := ⟨_, rfl, rfl⟩ }, l_CL_grow, ⟨m_CL_grow, y_CL_grow, k_CL_grow⟩, .all fun us hl => match us, hl with | [_, _], _ => rfl⟩
  have k_CL_init := keep_fn l_CL_init
  have y_CL_init := isFn_fn l_CL_init
  have S_CL_init : SAt l.prog K CL "__init__" "LeapTree.__init__" s_LeapTree___init__ ["self"] f_CM_init := ⟨f_CL_init, cc_CL_init, co_CL_init, .type "function", od_CL_init, dc_CL_init, pm_CL_init, an_CL_init, ct_CL_init, sl_CL_init,
    { fn := ⟨.type "function", od_CL_init, dc_CL_init, pm_CL_init, an_CL_init, ct_CL_init, sl_CL_init, l_CL_init⟩, cl := rfl, code := c_CL_init, cod := ⟨ccl_CL_init, cdd_CL_init, vs_CL_init, ccs_CL_init, file_CL_init, tf_CL_init, dl_CL_init, fv_CL_init, fl_CL_init⟩, cell := ⟨cv_CL_init, cld_CL_init, csl_CL_init, zc_CL_init⟩, isD := ⟨ic_CL, by simp [PySem.W.clsIn, x_CL]⟩, sub := mm_CL, sup := su_CL_init, ty := type_fn l_CM_init, fg := fnIn_fn l_CM_init, op := op, zs := zs, htop := htop,
      hm := by decide, hks := by rfl, hkc := by rfl, hself := by rfl, arg := ⟨_, rfl, rfl⟩ }, l_CL_init, ⟨m_CL_init, y_CL_init, k_CL_init⟩, .all fun us hl => match us, hl with | [_], _ => rfl⟩
  have cl_C : Cls K C := ⟨pg_C, hd_C, po_C, sa_C⟩
  have k_C_init := keep_fn l_C_init
  have y_C_init := isFn_fn l_C_init
  have F_C_init := fun_mk (st := s_Rows___init__) l_C_init c_C_init k_C_init
  have B_C_init : Binds K _ ["self", "worths"] [] := F_C_init.binds (ps := ["self", "worths"]) (fun _ _ _ _ _ _ us hl => match us, hl with | [_, _], _ => rfl)
  have M_C_init : MAt K C "__init__" "Rows.__init__" s_Rows___init__ ["self", "worths"] := ⟨_, _, F_C_init, ⟨m_C_init, y_C_init, k_C_init⟩, B_C_init⟩
  have k_C_size := keep_fn l_C_size
  have y_C_size := isFn_fn l_C_size
  have F_C_size := fun_mk (st := s_Rows_size) l_C_size c_C_size k_C_size
  have B_C_size : Binds K _ ["self"] [] := F_C_size.binds (ps := ["self"]) (fun _ _ _ _ _ _ us hl => match us, hl with | [_], _ => rfl)
  have M_C_size : MAt K C "size" "Rows.size" s_Rows_size ["self"] := ⟨_, _, F_C_size, ⟨m_C_size, y_C_size, k_C_size⟩, B_C_size⟩
  have k_C_many := keep_fn l_C_many
  have y_C_many := isFn_fn l_C_many
  have F_C_many := fun_mk (st := s_Rows_many) l_C_many c_C_many k_C_many
  have B_C_many : Binds K _ ["self"] [] := F_C_many.binds (ps := ["self"]) (fun _ _ _ _ _ _ us hl => match us, hl with | [_], _ => rfl)
  have M_C_many : MAt K C "many" "Rows.many" s_Rows_many ["self"] := ⟨_, _, F_C_many, ⟨m_C_many, y_C_many, k_C_many⟩, B_C_many⟩
  have k_C_makes := keep_fn l_C_makes
  have y_C_makes := isFn_fn l_C_makes
  have F_C_makes := fun_mk (st := s_Rows_makes) l_C_makes c_C_makes k_C_makes
  have B_C_makes : Binds K _ ["self"] [] := F_C_makes.binds (ps := ["self"]) (fun _ _ _ _ _ _ us hl => match us, hl with | [_], _ => rfl)
  have M_C_makes : MAt K C "makes" "Rows.makes" s_Rows_makes ["self"] := ⟨_, _, F_C_makes, ⟨m_C_makes, y_C_makes, k_C_makes⟩, B_C_makes⟩
  have k_C_at := keep_fn l_C_at
  have y_C_at := isFn_fn l_C_at
  have F_C_at := fun_mk (st := s_Rows_at) l_C_at c_C_at k_C_at
  have B_C_at : Binds K _ ["self", "make", "place"] [] := F_C_at.binds (ps := ["self", "make", "place"]) (fun _ _ _ _ _ _ us hl => match us, hl with | [_, _, _], _ => rfl)
  have M_C_at : MAt K C "at" "Rows.at" s_Rows_at ["self", "make", "place"] := ⟨_, _, F_C_at, ⟨m_C_at, y_C_at, k_C_at⟩, B_C_at⟩
  have k_C_row := keep_fn l_C_row
  have y_C_row := isFn_fn l_C_row
  have F_C_row := fun_mk (st := s_Rows_row) l_C_row c_C_row k_C_row
  have B_C_row : Binds K _ ["self", "make"] [] := F_C_row.binds (ps := ["self", "make"]) (fun _ _ _ _ _ _ us hl => match us, hl with | [_, _], _ => rfl)
  have M_C_row : MAt K C "row" "Rows.row" s_Rows_row ["self", "make"] := ⟨_, _, F_C_row, ⟨m_C_row, y_C_row, k_C_row⟩, B_C_row⟩
  have k_C_stretch := keep_fn l_C_stretch
  have y_C_stretch := isFn_fn l_C_stretch
  have F_C_stretch := fun_mk (st := s_Rows_stretch) l_C_stretch c_C_stretch k_C_stretch
  have B_C_stretch : Binds K _ ["self", "make", "low", "high"] [] := F_C_stretch.binds (ps := ["self", "make", "low", "high"]) (fun _ _ _ _ _ _ us hl => match us, hl with | [_, _, _, _], _ => rfl)
  have M_C_stretch : MAt K C "stretch" "Rows.stretch" s_Rows_stretch ["self", "make", "low", "high"] := ⟨_, _, F_C_stretch, ⟨m_C_stretch, y_C_stretch, k_C_stretch⟩, B_C_stretch⟩
  have k_C_writer := keep_fn l_C_writer
  have y_C_writer := isFn_fn l_C_writer
  have F_C_writer := fun_mk (st := s_Rows_writer) l_C_writer c_C_writer k_C_writer
  have B_C_writer : Binds K _ ["self", "make", "place"] [] := F_C_writer.binds (ps := ["self", "make", "place"]) (fun _ _ _ _ _ _ us hl => match us, hl with | [_, _, _], _ => rfl)
  have M_C_writer : MAt K C "writer" "Rows.writer" s_Rows_writer ["self", "make", "place"] := ⟨_, _, F_C_writer, ⟨m_C_writer, y_C_writer, k_C_writer⟩, B_C_writer⟩
  have k_C_place_of := keep_fn l_C_place_of
  have y_C_place_of := isFn_fn l_C_place_of
  have F_C_place_of := fun_mk (st := s_Rows_place_of) l_C_place_of c_C_place_of k_C_place_of
  have B_C_place_of : Binds K _ ["self", "make"] [] := F_C_place_of.binds (ps := ["self", "make"]) (fun _ _ _ _ _ _ us hl => match us, hl with | [_, _], _ => rfl)
  have M_C_place_of : MAt K C "place_of" "Rows.place_of" s_Rows_place_of ["self", "make"] := ⟨_, _, F_C_place_of, ⟨m_C_place_of, y_C_place_of, k_C_place_of⟩, B_C_place_of⟩
  have k_C_worths_in := keep_fn l_C_worths_in
  have y_C_worths_in := isFn_fn l_C_worths_in
  have F_C_worths_in := fun_mk (st := s_Rows_worths_in) l_C_worths_in c_C_worths_in k_C_worths_in
  have B_C_worths_in : Binds K _ ["self", "make", "low", "high"] [] := F_C_worths_in.binds (ps := ["self", "make", "low", "high"]) (fun _ _ _ _ _ _ us hl => match us, hl with | [_, _, _, _], _ => rfl)
  have M_C_worths_in : MAt K C "worths_in" "Rows.worths_in" s_Rows_worths_in ["self", "make", "low", "high"] := ⟨_, _, F_C_worths_in, ⟨m_C_worths_in, y_C_worths_in, k_C_worths_in⟩, B_C_worths_in⟩
  have k_C_add_steps := keep_fn l_C_add_steps
  have y_C_add_steps := isFn_fn l_C_add_steps
  have F_C_add_steps := fun_mk (st := s_Rows_add_steps) l_C_add_steps c_C_add_steps k_C_add_steps
  have B_C_add_steps : Binds K _ ["self", "many"] [] := F_C_add_steps.binds (ps := ["self", "many"]) (fun _ _ _ _ _ _ us hl => match us, hl with | [_, _], _ => rfl)
  have M_C_add_steps : MAt K C "add_steps" "Rows.add_steps" s_Rows_add_steps ["self", "many"] := ⟨_, _, F_C_add_steps, ⟨m_C_add_steps, y_C_add_steps, k_C_add_steps⟩, B_C_add_steps⟩
  have k_C_need_make := keep_fn l_C_need_make
  have y_C_need_make := isFn_fn l_C_need_make
  have F_C_need_make := fun_mk (st := s_Rows_need_make) l_C_need_make c_C_need_make k_C_need_make
  have B_C_need_make : Binds K _ ["self", "make"] [] := F_C_need_make.binds (ps := ["self", "make"]) (fun _ _ _ _ _ _ us hl => match us, hl with | [_, _], _ => rfl)
  have M_C_need_make : MAt K C "need_make" "Rows.need_make" s_Rows_need_make ["self", "make"] := ⟨_, _, F_C_need_make, ⟨m_C_need_make, y_C_need_make, k_C_need_make⟩, B_C_need_make⟩
  have k_C_need_place := keep_fn l_C_need_place
  have y_C_need_place := isFn_fn l_C_need_place
  have F_C_need_place := fun_mk (st := s_Rows_need_place) l_C_need_place c_C_need_place k_C_need_place
  have B_C_need_place : Binds K _ ["self", "place"] [] := F_C_need_place.binds (ps := ["self", "place"]) (fun _ _ _ _ _ _ us hl => match us, hl with | [_, _], _ => rfl)
  have M_C_need_place : MAt K C "need_place" "Rows.need_place" s_Rows_need_place ["self", "place"] := ⟨_, _, F_C_need_place, ⟨m_C_need_place, y_C_need_place, k_C_need_place⟩, B_C_need_place⟩
  have k_C_need_stretch := keep_fn l_C_need_stretch
  have y_C_need_stretch := isFn_fn l_C_need_stretch
  have F_C_need_stretch := fun_mk (st := s_Rows_need_stretch) l_C_need_stretch c_C_need_stretch k_C_need_stretch
  have B_C_need_stretch : Binds K _ ["self", "low", "high"] [] := F_C_need_stretch.binds (ps := ["self", "low", "high"]) (fun _ _ _ _ _ _ us hl => match us, hl with | [_, _, _], _ => rfl)
  have M_C_need_stretch : MAt K C "need_stretch" "Rows.need_stretch" s_Rows_need_stretch ["self", "low", "high"] := ⟨_, _, F_C_need_stretch, ⟨m_C_need_stretch, y_C_need_stretch, k_C_need_stretch⟩, B_C_need_stretch⟩
  have k_C_row_need_there := keep_fn l_C_row_need_there
  have y_C_row_need_there := isFn_fn l_C_row_need_there
  have F_C_row_need_there := fun_mk (st := s_Rows__row_need_there) l_C_row_need_there c_C_row_need_there k_C_row_need_there
  have B_C_row_need_there : Binds K _ ["self", "make"] [] := F_C_row_need_there.binds (ps := ["self", "make"]) (fun _ _ _ _ _ _ us hl => match us, hl with | [_, _], _ => rfl)
  have M_C_row_need_there : MAt K C "_row_need_there" "Rows._row_need_there" s_Rows__row_need_there ["self", "make"] := ⟨_, _, F_C_row_need_there, ⟨m_C_row_need_there, y_C_row_need_there, k_C_row_need_there⟩, B_C_row_need_there⟩
  have k_C_up_to_writer := keep_fn l_C_up_to_writer
  have y_C_up_to_writer := isFn_fn l_C_up_to_writer
  have F_C_up_to_writer := fun_mk (st := s_Rows__up_to_writer) l_C_up_to_writer c_C_up_to_writer k_C_up_to_writer
  have B_C_up_to_writer : Binds K _ ["self", "make", "place"] [] := F_C_up_to_writer.binds (ps := ["self", "make", "place"]) (fun _ _ _ _ _ _ us hl => match us, hl with | [_, _, _], _ => rfl)
  have M_C_up_to_writer : MAt K C "_up_to_writer" "Rows._up_to_writer" s_Rows__up_to_writer ["self", "make", "place"] := ⟨_, _, F_C_up_to_writer, ⟨m_C_up_to_writer, y_C_up_to_writer, k_C_up_to_writer⟩, B_C_up_to_writer⟩
  have k_C_row_put := keep_fn l_C_row_put
  have y_C_row_put := isFn_fn l_C_row_put
  have F_C_row_put := fun_mk (st := s_Rows__row_put) l_C_row_put c_C_row_put k_C_row_put
  have B_C_row_put : Binds K _ ["self", "make", "place", "worth"] [] := F_C_row_put.binds (ps := ["self", "make", "place", "worth"]) (fun _ _ _ _ _ _ us hl => match us, hl with | [_, _, _, _], _ => rfl)
  have M_C_row_put : MAt K C "_row_put" "Rows._row_put" s_Rows__row_put ["self", "make", "place", "worth"] := ⟨_, _, F_C_row_put, ⟨m_C_row_put, y_C_row_put, k_C_row_put⟩, B_C_row_put⟩
  have k_C_row_need_room_for := keep_fn l_C_row_need_room_for
  have y_C_row_need_room_for := isFn_fn l_C_row_need_room_for
  have F_C_row_need_room_for := fun_mk (st := s_Rows__row_need_room_for) l_C_row_need_room_for c_C_row_need_room_for k_C_row_need_room_for
  have B_C_row_need_room_for : Binds K _ ["self", "more"] [] := F_C_row_need_room_for.binds (ps := ["self", "more"]) (fun _ _ _ _ _ _ us hl => match us, hl with | [_, _], _ => rfl)
  have M_C_row_need_room_for : MAt K C "_row_need_room_for" "Rows._row_need_room_for" s_Rows__row_need_room_for ["self", "more"] := ⟨_, _, F_C_row_need_room_for, ⟨m_C_row_need_room_for, y_C_row_need_room_for, k_C_row_need_room_for⟩, B_C_row_need_room_for⟩
  have k_C_row_writers := keep_fn l_C_row_writers
  have y_C_row_writers := isFn_fn l_C_row_writers
  have F_C_row_writers := fun_mk (st := s_Rows__row_writers) l_C_row_writers c_C_row_writers k_C_row_writers
  have B_C_row_writers : Binds K _ ["self", "make"] [] := F_C_row_writers.binds (ps := ["self", "make"]) (fun _ _ _ _ _ _ us hl => match us, hl with | [_, _], _ => rfl)
  have M_C_row_writers : MAt K C "_row_writers" "Rows._row_writers" s_Rows__row_writers ["self", "make"] := ⟨_, _, F_C_row_writers, ⟨m_C_row_writers, y_C_row_writers, k_C_row_writers⟩, B_C_row_writers⟩
  have k_C_needed_no_more := keep_fn l_C_needed_no_more
  have y_C_needed_no_more := isFn_fn l_C_needed_no_more
  have F_C_needed_no_more := fun_mk (st := s_Rows__needed_no_more) l_C_needed_no_more c_C_needed_no_more k_C_needed_no_more
  have B_C_needed_no_more : Binds K _ ["self", "make"] [] := F_C_needed_no_more.binds (ps := ["self", "make"]) (fun _ _ _ _ _ _ us hl => match us, hl with | [_, _], _ => rfl)
  have M_C_needed_no_more : MAt K C "_needed_no_more" "Rows._needed_no_more" s_Rows__needed_no_more ["self", "make"] := ⟨_, _, F_C_needed_no_more, ⟨m_C_needed_no_more, y_C_needed_no_more, k_C_needed_no_more⟩, B_C_needed_no_more⟩
  have k_C_put := keep_fn l_C_put
  have y_C_put := isFn_fn l_C_put
  have F_C_put := fun_mk (st := s_Rows_put) l_C_put c_C_put k_C_put
  have B_C_put : Binds K _ ["self", "make", "place", "worth"] [] := F_C_put.binds (ps := ["self", "make", "place", "worth"]) (fun _ _ _ _ _ _ us hl => match us, hl with | [_, _, _, _], _ => rfl)
  have M_C_put : MAt K C "put" "Rows.put" s_Rows_put ["self", "make", "place", "worth"] := ⟨_, _, F_C_put, ⟨m_C_put, y_C_put, k_C_put⟩, B_C_put⟩
  have k_C_need_new := keep_fn l_C_need_new
  have y_C_need_new := isFn_fn l_C_need_new
  have F_C_need_new := fun_mk (st := s_Rows_need_new) l_C_need_new c_C_need_new k_C_need_new
  have B_C_need_new : Binds K _ ["self", "make"] [] := F_C_need_new.binds (ps := ["self", "make"]) (fun _ _ _ _ _ _ us hl => match us, hl with | [_, _], _ => rfl)
  have M_C_need_new : MAt K C "need_new" "Rows.need_new" s_Rows_need_new ["self", "make"] := ⟨_, _, F_C_need_new, ⟨m_C_need_new, y_C_need_new, k_C_need_new⟩, B_C_need_new⟩
  have k_C_begin := keep_fn l_C_begin
  have y_C_begin := isFn_fn l_C_begin
  have F_C_begin := fun_mk (st := s_Boxed_begin) l_C_begin c_C_begin k_C_begin
  have B_C_begin : Binds K _ ["self", "worths"] [] := F_C_begin.binds (ps := ["self", "worths"]) (fun _ _ _ _ _ _ us hl => match us, hl with | [_, _], _ => rfl)
  have M_C_begin : MAt K C "begin" "Boxed.begin" s_Boxed_begin ["self", "worths"] := ⟨_, _, F_C_begin, ⟨m_C_begin, y_C_begin, k_C_begin⟩, B_C_begin⟩
  have k_C_store := keep_fn l_C_store
  have y_C_store := isFn_fn l_C_store
  have F_C_store := fun_mk (st := s_Boxed_store) l_C_store c_C_store k_C_store
  have B_C_store : Binds K _ ["self", "make", "number", "place", "worth"] [] := F_C_store.binds (ps := ["self", "make", "number", "place", "worth"]) (fun _ _ _ _ _ _ us hl => match us, hl with | [_, _, _, _, _], _ => rfl)
  have M_C_store : MAt K C "store" "Boxed.store" s_Boxed_store ["self", "make", "number", "place", "worth"] := ⟨_, _, F_C_store, ⟨m_C_store, y_C_store, k_C_store⟩, B_C_store⟩
  have k_C_looked := keep_fn l_C_looked
  have y_C_looked := isFn_fn l_C_looked
  have F_C_looked := fun_mk (st := s_Boxed_looked) l_C_looked c_C_looked k_C_looked
  have B_C_looked : Binds K _ ["self", "make", "place"] [] := F_C_looked.binds (ps := ["self", "make", "place"]) (fun _ _ _ _ _ _ us hl => match us, hl with | [_, _, _], _ => rfl)
  have M_C_looked : MAt K C "looked" "Boxed.looked" s_Boxed_looked ["self", "make", "place"] := ⟨_, _, F_C_looked, ⟨m_C_looked, y_C_looked, k_C_looked⟩, B_C_looked⟩
  have k_C_freed := keep_fn l_C_freed
  have y_C_freed := isFn_fn l_C_freed
  have F_C_freed := fun_mk (st := s_Boxed_freed) l_C_freed c_C_freed k_C_freed
  have B_C_freed : Binds K _ ["self", "make"] [] := F_C_freed.binds (ps := ["self", "make"]) (fun _ _ _ _ _ _ us hl => match us, hl with | [_, _], _ => rfl)
  have M_C_freed : MAt K C "freed" "Boxed.freed" s_Boxed_freed ["self", "make"] := ⟨_, _, F_C_freed, ⟨m_C_freed, y_C_freed, k_C_freed⟩, B_C_freed⟩
  have k_C_box := keep_fn l_C_box
  have y_C_box := isFn_fn l_C_box
  have F_C_box := fun_mk (st := s_Boxed_box) l_C_box c_C_box k_C_box
  have B_C_box : Binds K _ ["self", "place"] [] := F_C_box.binds (ps := ["self", "place"]) (fun _ _ _ _ _ _ us hl => match us, hl with | [_, _], _ => rfl)
  have M_C_box : MAt K C "box" "Boxed.box" s_Boxed_box ["self", "place"] := ⟨_, _, F_C_box, ⟨m_C_box, y_C_box, k_C_box⟩, B_C_box⟩
  have k_C_room := keep_fn l_C_room
  have y_C_room := isFn_fn l_C_room
  have F_C_room := fun_mk (st := s_Boxed_room) l_C_room c_C_room k_C_room
  have B_C_room : Binds K _ ["self"] [] := F_C_room.binds (ps := ["self"]) (fun _ _ _ _ _ _ us hl => match us, hl with | [_], _ => rfl)
  have M_C_room : MAt K C "room" "Boxed.room" s_Boxed_room ["self"] := ⟨_, _, F_C_room, ⟨m_C_room, y_C_room, k_C_room⟩, B_C_room⟩
  have k_C_in_order := keep_fn l_C_in_order
  have y_C_in_order := isFn_fn l_C_in_order
  have F_C_in_order := fun_mk (st := s_Boxed_in_order) l_C_in_order c_C_in_order k_C_in_order
  have B_C_in_order : Binds K _ ["self"] [] := F_C_in_order.binds (ps := ["self"]) (fun _ _ _ _ _ _ us hl => match us, hl with | [_], _ => rfl)
  have M_C_in_order : MAt K C "in_order" "Boxed.in_order" s_Boxed_in_order ["self"] := ⟨_, _, F_C_in_order, ⟨m_C_in_order, y_C_in_order, k_C_in_order⟩, B_C_in_order⟩
  have k_C_found := keep_fn l_C_found
  have y_C_found := isFn_fn l_C_found
  have F_C_found := fun_mk (st := s_Boxed__found) l_C_found c_C_found k_C_found
  have B_C_found : Binds K _ ["self", "make", "place"] [] := F_C_found.binds (ps := ["self", "make", "place"]) (fun _ _ _ _ _ _ us hl => match us, hl with | [_, _, _], _ => rfl)
  have M_C_found : MAt K C "_found" "Boxed._found" s_Boxed__found ["self", "make", "place"] := ⟨_, _, F_C_found, ⟨m_C_found, y_C_found, k_C_found⟩, B_C_found⟩
  have k_C_turn_of_each := keep_fn l_C_turn_of_each
  have y_C_turn_of_each := isFn_fn l_C_turn_of_each
  have F_C_turn_of_each := fun_mk (st := s_Boxed__turn_of_each) l_C_turn_of_each c_C_turn_of_each k_C_turn_of_each
  have B_C_turn_of_each : Binds K _ ["self", "place"] [] := F_C_turn_of_each.binds (ps := ["self", "place"]) (fun _ _ _ _ _ _ us hl => match us, hl with | [_, _], _ => rfl)
  have M_C_turn_of_each : MAt K C "_turn_of_each" "Boxed._turn_of_each" s_Boxed__turn_of_each ["self", "place"] := ⟨_, _, F_C_turn_of_each, ⟨m_C_turn_of_each, y_C_turn_of_each, k_C_turn_of_each⟩, B_C_turn_of_each⟩
  have k_CR_let_go := keep_fn l_CR_let_go
  have y_CR_let_go := isFn_fn l_CR_let_go
  have F_CR_let_go := fun_mk (st := s_Rows_let_go) l_CR_let_go c_CR_let_go k_CR_let_go
  have B_CR_let_go : Binds K _ ["self", "make"] [] := F_CR_let_go.binds (ps := ["self", "make"]) (fun _ _ _ _ _ _ us hl => match us, hl with | [_, _], _ => rfl)
  have k_C_let_go := keep_fn l_C_let_go
  have y_C_let_go := isFn_fn l_C_let_go
  have S_C_let_go : SAt l.prog K C "let_go" "Boxed.let_go" s_Boxed_let_go ["self", "make"] f_CR_let_go := ⟨f_C_let_go, cc_C_let_go, co_C_let_go, .type "function", od_C_let_go, dc_C_let_go, pm_C_let_go, an_C_let_go, ct_C_let_go, sl_C_let_go,
    { fn := ⟨.type "function", od_C_let_go, dc_C_let_go, pm_C_let_go, an_C_let_go, ct_C_let_go, sl_C_let_go, l_C_let_go⟩, cl := rfl, code := c_C_let_go, cod := ⟨ccl_C_let_go, cdd_C_let_go, vs_C_let_go, ccs_C_let_go, file_C_let_go, tf_C_let_go, dl_C_let_go, fv_C_let_go, fl_C_let_go⟩, cell := ⟨cv_C_let_go, cld_C_let_go, csl_C_let_go, zc_C_let_go⟩, isD := ⟨ic_C, by simp [PySem.W.clsIn, x_C]⟩, sub := mm_C, sup := su_C_let_go, ty := type_fn l_CR_let_go, fg := fnIn_fn l_CR_let_go, op := op, zs := zs, htop := htop,
      hm := by decide, hks := by rfl, hkc := by rfl, hself := by rfl, arg := ⟨_, rfl, rfl⟩ }, l_C_let_go, ⟨m_C_let_go, y_C_let_go, k_C_let_go⟩, .all fun us hl => match us, hl with | [_, _], _ => rfl⟩
  have EA : ErrTxt l.prog K CA fA "Alone.__init__" _ :=
    { cls := ⟨nmA, qA, NA, bsA, _, snA, subA, abA, colA, ddA, m0A, m1A, m2A, m3A, m5A, xA, by rfl⟩, sa := saA, ga := gaA, gg := ggA, noN := nnA, iC := iiA, tC := type_fn llA, kC := kkA, exC := eeA, veC := veA, tyC := tyA, hdC := hdA, sub := mmA, sup := suA, op := op, zs := zs, htop := htop,
      fn := ⟨.type "function", odA, dcA, pmA, anA, cdaA, ccA, ctA, slA, kdA, p1A, p2A, p3A, p4A, p5A, p6A, q1A, q2A, q3A, q4A, r1A, r2A, cclA, clA, cddA, cldA, vsA, ccsA, cslA, fileA, tfA, llA, ciA, dlA, fvA, flA, zcA, plA⟩ }
  have EN : ErrTxt l.prog K CN fN "NoMake.__init__" _ :=
    { cls := ⟨nmN, qN, NN, bsN, _, snN, subN, abN, colN, ddN, m0N, m1N, m2N, m3N, m5N, xN, by rfl⟩, sa := saN, ga := gaN, gg := ggN, noN := nnN, iC := iiN, tC := type_fn llN, kC := kkN, exC := eeN, veC := veN, tyC := tyN, hdC := hdN, sub := mmN, sup := suN, op := op, zs := zs, htop := htop,
      fn := ⟨.type "function", odN, dcN, pmN, anN, cdaN, ccN, ctN, slN, kdN, p1N, p2N, p3N, p4N, p5N, p6N, q1N, q2N, q3N, q4N, r1N, r2N, cclN, clN, cddN, cldN, vsN, ccsN, cslN, fileN, tfN, llN, ciN, dlN, fvN, flN, zcN, plN⟩ }
  have EP : ErrTxt l.prog K CP fP "NoPlace.__init__" _ :=
    { cls := ⟨nmP, qP, NP, bsP, _, snP, subP, abP, colP, ddP, m0P, m1P, m2P, m3P, m5P, xP, by rfl⟩, sa := saP, ga := gaP, gg := ggP, noN := nnP, iC := iiP, tC := type_fn llP, kC := kkP, exC := eeP, veC := veP, tyC := tyP, hdC := hdP, sub := mmP, sup := suP, op := op, zs := zs, htop := htop,
      fn := ⟨.type "function", odP, dcP, pmP, anP, cdaP, ccP, ctP, slP, kdP, p1P, p2P, p3P, p4P, p5P, p6P, q1P, q2P, q3P, q4P, r1P, r2P, cclP, clP, cddP, cldP, vsP, ccsP, cslP, fileP, tfP, llP, ciP, dlP, fvP, flP, zcP, plP⟩ }
  have ES : Gr.ErrTxt2 l.prog K CS fS "NoStretch.__init__" _ :=
    { cls := ⟨nmS, qS, NS, bsS, _, snS, subS, abS, colS, ddS, m0S, m1S, m2S, m3S, m5S, xS, by rfl⟩, sa := saS, ga := gaS, gg := ggS, noN := nnS, noM := noS, iC := iiS, tC := type_fn llS, kC := kkS, exC := eeS, veC := veS, tyC := tyS, hdC := hdS, sub := mmS, sup := suS, op := op, zs := zs, htop := htop,
      fn := ⟨.type "function", odS, dcS, pmS, anS, cdaS, ccS, ctS, slS, kdS, p1S, p2S, p3S, p4S, p5S, p6S, q1S, q2S, q3S, q4S, t1S, t2S, t3S, t4S, r1S, r2S, r3S, cclS, clS, cddS, cldS, vsS, ccsS, cslS, fileS, tfS, llS, ciS, dlS, fvS, flS, zcS, plS⟩ }
  refine ⟨PySem.W.fnOf "law" "law" (defArgs s_law) (defBody s_law) (defScope s_law) .none kV24 dc24 pm24 an24 cd24 ct24, fun s v => .of_eq rfl, fun base _ _ => ?_⟩
  have T : Txt K mg := ⟨PySem.W.mg_none_of X G z_len, PySem.W.mg_none_of X G z_max, PySem.W.mg_none_of X G z_min, PySem.W.mg_none_of X G z_range, PySem.W.mg_none_of X G z_repr, PySem.W.mg_none_of X G z_all, PySem.W.mg_none_of X G z_enumerate, PySem.W.mg_none_of X G z_tuple, PySem.W.mg_none_of X G z_isinstance, PySem.W.mg_none_of X G z_int, PySem.W.mg_none_of X G z_bool, PySem.W.mg_none_of X G z_list, PySem.W.mg_none_of X G z_sum, PySem.W.mg_none_of X G z_zip, PySem.W.mg_none_of X G z_sorted, PySem.W.mg_none_of X G z_reversed, ⟨t_MOST_MAKES, PySem.W.mg_of X G i_MOST_MAKES⟩, ⟨t_MOST_CHANGES, PySem.W.mg_of X G i_MOST_CHANGES⟩, ⟨t_MOST_PLACES, PySem.W.mg_of X G i_MOST_PLACES⟩, ⟨t_MOST_WORTH, PySem.W.mg_of X G i_MOST_WORTH⟩⟩
  have c_cell := ok_cell (P := l.prog) (w := w) (base := base) T d__law_cell_at
  have c_box := ok_box (P := l.prog) (w := w) (base := base) T d__law_box
  have c_take := ok_take (P := l.prog) (w := w) (base := base) T d__law_take
  have c_wh := ok_whI (P := l.prog) (w := w) (base := base) T d_is_whole
  have worth := ok_worth T c_wh d_is_worth
  have worths := ok_worths T worth d_is_worths
  have half := ok_half (P := l.prog) (w := w) (base := base) T d_found_by_halving
  have TC : TreeC K CL := ⟨cl_CL, no_CL__owns, no_CL__depths, no_CL__on, no_CL__leaps⟩
  have tmany := ok_many (P := l.prog) (w := w) (base := base) T TC M_CM_many_CL
  have tneed := ok_need T TC c_wh tmany M_CM_need_make_CL
  have town := ok_own T TC tneed M_CM_own_CL
  have tline := ok_line T TC tneed M_CM_line_CL
  have thr := ok_through (P := l.prog) (w := w) (base := base) T TC M_CL_leaps_through
  have tgrow := okL_grow T TC tmany tneed thr F_CM_grow B_CM_grow S_CL_grow
  obtain ⟨fi, fdi, me, bi, Fi⟩ := okL_init (P := l.prog) (w := w) (base := base) T TC F_CM_init B_CM_init S_CL_init
  have cL := PySem.W.mg_of X G a_CL
  have mkL : Mk K CL fi := ⟨mk_CL, me.at_, me.fn, kp_CL⟩
  have OC : RowC K C := ⟨cl_C, no_C__row_size, no_C__row_tree, no_C__row_places, no_C__row_kept, no_C__row_steps, no_C__boxes, no_C__order⟩
  have begin_ := ok_begin (P := l.prog) (w := w) (base := base) T OC M_C_begin
  have init := (fn_rinit T OC cL mkL bi Fi worths (metMono begin_ (show 1 ≤ 3 by decide)) F_C_init).imp fun _ _ _ _ h => init_imp h
  have size := ok_size (P := l.prog) (w := w) (base := base) (CL := CL) T OC M_C_size
  have many := ok_rmany (P := l.prog) (w := w) (base := base) (CL := CL) T OC M_C_many
  have needmk := ok_needmk T OC c_wh many M_C_need_make
  have needpl := ok_needpl T OC c_wh size M_C_need_place
  have new_ := ok_new (P := l.prog) (w := w) (base := base) T OC M_C_need_new
  have room := ok_room T OC many M_C_row_need_room_for
  have add := ok_add (P := l.prog) (w := w) (base := base) (CL := CL) T OC M_C_add_steps
  have first := ok_first (P := l.prog) (w := w) (base := base) T d__first_of_runs
  have found := ok_found T OC half add M_C_found
  have each := ok_each (P := l.prog) (w := w) (base := base) (CL := CL) T OC M_C_turn_of_each
  have needst := ok_needst T OC c_wh size M_C_need_stretch
  have there := ok_there T OC c_wh many M_C_row_need_there
  have foundA := metImp found fun _ _ _ _ h => found_imp h
  have look := ok_look T OC foundA M_C_looked
  have win := ok_win T OC look M_C_worths_in
  have row := ok_row T OC needmk size win M_C_row
  have makes := ok_makes (P := l.prog) (w := w) (base := base) (CL := CL) T OC M_C_makes
  have upw := ok_upw T OC town M_C_up_to_writer
  have store := ok_store T OC first found each M_C_store
  have rput := metImp (ok_rput (kS := 0) T OC tgrow (metMono store (show 3 ≤ 20 by decide)) M_C_row_put) fun _ _ _ _ h => rput_imp h
  have put := ok_put T OC worth needmk needpl new_ room rput M_C_put
  have wrs_ := ok_wrs T OC size tline M_C_row_writers
  have free := ok_free T OC wrs_ M_C_needed_no_more
  have freed := ok_freed T OC first size each free M_C_freed
  have go := ok_go T OC (fn_rgo T OC needmk freed F_CR_let_go) B_CR_let_go S_C_let_go
  have ord := ok_ord (P := l.prog) (w := w) (base := base) (CL := CL) T OC M_C_in_order
  have cP := PySem.W.mg_of X G a_C
  have mkP : Mk K C f_C_init := ⟨mk_C, m_C_init, y_C_init, kp_C⟩
  have wt := ok_wt T c_take d__law_worth
  have wts := ok_wts T c_take wt d__law_worths
  have model := ok_modelR (P := l.prog) (w := w) (base := base) T d__law_model
  have written := ok_written (P := l.prog) (w := w) (base := base) T d__law_written
  have oneof := ok_oneof T c_take d__law_one_of
  have last := ok_last (P := l.prog) (w := w) (base := base) T d__law_last
  have pw := ok_pw (C := C) (CL := CL) T c_take wt oneof d__law_put
  have boxA := ok_boxA T OC needpl M_C_box
  have c_whole := ok_whole (P := l.prog) (w := w) (base := base) T d_is_whole
  have RP : RfT l.prog K mg CA fA CN fN CP fP CS fS CE := { e_Alone := EA, e_NoMake := EN, e_NoPlace := EP, e_NoStretch := ES, iA := ⟨h1A, h2A, h3A, h4A⟩, iN := ⟨h1N, h2N, h3N, h4N⟩, iP := ⟨h1P, h2P, h3P, h4P⟩, iS := ⟨h1S, h2S, h3S, h4S⟩, g_Alone := PySem.W.mg_of X G aA, g_NoMake := PySem.W.mg_of X G aN, g_NoPlace := PySem.W.mg_of X G aP, g_NoStretch := PySem.W.mg_of X G aS, g_MakesError := PySem.W.mg_of X G aE, kAA := kit_self, kNN := kit_self, kPP := kit_self, kSS := kit_self, kNA := ktNA, kPA := ktPA, kPN := ktPN, kSA := ktSA, kSN := ktSN, kSP := ktSP, mA := exm_above smA iE yE eE, mN := exm_above smN iE yE eE, mP := exm_above smP iE yE eE, mS := exm_above smS iE yE eE }
  have nk := ok_nk T RP OC c_whole many M_C_need_make
  have npb := ok_npB T RP OC c_whole size M_C_need_place
  have nt := ok_nt T RP OC c_whole many M_C_row_need_there
  have nst := ok_ns T RP OC c_whole size M_C_need_stretch
  have x_atK := ok_atK T RP OC nk needpl win M_C_at
  have x_atP := ok_atP T RP OC needmk npb win M_C_at
  have x_rowK := ok_rowK T RP OC nk size win M_C_row
  have x_stK := ok_stK T RP OC nk needst win M_C_stretch
  have x_stS := ok_stS T RP OC needmk nst win M_C_stretch
  have x_wrK := ok_wrK T RP OC nt needpl upw M_C_writer
  have x_wrP := ok_wrP T RP OC there npb upw M_C_writer
  have x_poK := ok_poK T RP OC nt M_C_place_of
  have x_goK := ok_goK OC (fn_goK T RP OC nk freed F_CR_let_go) B_CR_let_go S_C_let_go
  have x_goA := ok_goA OC (fn_goA T RP OC needmk freed F_CR_let_go) B_CR_let_go S_C_let_go
  have ct := ok_ct (P := l.prog) (w := w) (base := base) T RP d__law_caught
  have ask := ok_ask (P := l.prog) (w := w) (base := base) T x_atK x_atP x_rowK x_stK x_stS x_goK x_wrK x_wrP x_poK d__law_ask
  have bad := ok_bad (CN := CN) (CP := CP) (CS := CS) T c_take many makes d__law_bad_ask
  have ar_ := ok_ar T RP ct ask bad d__law_asks_refused
  have toldN := ok_toldN T RP ct x_goK d__law_told
  have toldA := ok_toldA T RP ct x_goA d__law_told
  have roomN := ok_roomN (P := l.prog) (w := w) (base := base) (CL := CL) T OC M_C_room
  have come_ := ok_come (P := l.prog) (w := w) (base := base) T d__law_come
  have runs_ := ok_runs T come_ last d__law_runs
  have reads_ := ok_reads T last d__law_reads
  have lg := ok_lg T OC reads_ toldN runs_ go boxA d__law_let_go
  exact ok_law T OC F_law cP mkP B_C_init init c_cell c_box c_take wts model pw written oneof lg ar_ toldA put ord row roomN

/-! ### the head: where things stand, what is looked at -/
namespace Hd
def v_CA (K : PySem.W.Frag) : Addr := He.ga K "Alone"
def v_fA (K : PySem.W.Frag) : Addr := He.ma K (v_CA K) "__init__"
def v_CN (K : PySem.W.Frag) : Addr := He.ga K "NoMake"
def v_fN (K : PySem.W.Frag) : Addr := He.ma K (v_CN K) "__init__"
def v_CP (K : PySem.W.Frag) : Addr := He.ga K "NoPlace"
def v_fP (K : PySem.W.Frag) : Addr := He.ma K (v_CP K) "__init__"
def v_CS (K : PySem.W.Frag) : Addr := He.ga K "NoStretch"
def v_fS (K : PySem.W.Frag) : Addr := He.ma K (v_CS K) "__init__"
def v_f0 (K : PySem.W.Frag) : Addr := He.ga K "found_by_halving"
def v_f1 (K : PySem.W.Frag) : Addr := He.ga K "is_whole"
def v_f2 (K : PySem.W.Frag) : Addr := He.ga K "is_worth"
def v_f3 (K : PySem.W.Frag) : Addr := He.ga K "is_worths"
def v_f4 (K : PySem.W.Frag) : Addr := He.ga K "_first_of_runs"
def v_f5 (K : PySem.W.Frag) : Addr := He.ga K "_law_cell_at"
def v_f6 (K : PySem.W.Frag) : Addr := He.ga K "_law_box"
def v_f7 (K : PySem.W.Frag) : Addr := He.ga K "_law_take"
def v_f8 (K : PySem.W.Frag) : Addr := He.ga K "_law_worth"
def v_f9 (K : PySem.W.Frag) : Addr := He.ga K "_law_worths"
def v_f10 (K : PySem.W.Frag) : Addr := He.ga K "_law_model"
def v_f11 (K : PySem.W.Frag) : Addr := He.ga K "_law_written"
def v_f12 (K : PySem.W.Frag) : Addr := He.ga K "_law_one_of"
def v_f13 (K : PySem.W.Frag) : Addr := He.ga K "_law_last"
def v_f14 (K : PySem.W.Frag) : Addr := He.ga K "_law_put"
def v_f15 (K : PySem.W.Frag) : Addr := He.ga K "_law_come"
def v_f16 (K : PySem.W.Frag) : Addr := He.ga K "_law_runs"
def v_f17 (K : PySem.W.Frag) : Addr := He.ga K "_law_reads"
def v_f18 (K : PySem.W.Frag) : Addr := He.ga K "_law_caught"
def v_f19 (K : PySem.W.Frag) : Addr := He.ga K "_law_told"
def v_f20 (K : PySem.W.Frag) : Addr := He.ga K "_law_ask"
def v_f21 (K : PySem.W.Frag) : Addr := He.ga K "_law_bad_ask"
def v_f22 (K : PySem.W.Frag) : Addr := He.ga K "_law_asks_refused"
def v_f23 (K : PySem.W.Frag) : Addr := He.ga K "_law_let_go"
def v_f24 (K : PySem.W.Frag) : Addr := He.ga K "law"
def v_CM (K : PySem.W.Frag) : Addr := He.ga K "MakeTree"
def v_CL (K : PySem.W.Frag) : Addr := He.ga K "LeapTree"
def v_C (K : PySem.W.Frag) : Addr := He.ga K "Boxed"
def v_CR (K : PySem.W.Frag) : Addr := He.ga K "Rows"
def v_CE (K : PySem.W.Frag) : Addr := He.ga K "MakesError"
def v_f_CM_many (K : PySem.W.Frag) : Addr := He.ma K (v_CL K) "many"
def v_f_CM_need_make (K : PySem.W.Frag) : Addr := He.ma K (v_CL K) "_need_make"
def v_f_CM_own (K : PySem.W.Frag) : Addr := He.ma K (v_CL K) "own"
def v_f_CM_line (K : PySem.W.Frag) : Addr := He.ma K (v_CL K) "line"
def v_f_CM_grow (K : PySem.W.Frag) : Addr := He.ma K (v_CM K) "grow"
def v_f_CM_init (K : PySem.W.Frag) : Addr := He.ma K (v_CM K) "__init__"
def v_f_CL_leaps_through (K : PySem.W.Frag) : Addr := He.ma K (v_CL K) "_leaps_through"
def v_f_CL_grow (K : PySem.W.Frag) : Addr := He.ma K (v_CL K) "grow"
def v_f_CL_init (K : PySem.W.Frag) : Addr := He.ma K (v_CL K) "__init__"
def v_f_C_init (K : PySem.W.Frag) : Addr := He.ma K (v_C K) "__init__"
def v_f_C_size (K : PySem.W.Frag) : Addr := He.ma K (v_C K) "size"
def v_f_C_many (K : PySem.W.Frag) : Addr := He.ma K (v_C K) "many"
def v_f_C_makes (K : PySem.W.Frag) : Addr := He.ma K (v_C K) "makes"
def v_f_C_at (K : PySem.W.Frag) : Addr := He.ma K (v_C K) "at"
def v_f_C_row (K : PySem.W.Frag) : Addr := He.ma K (v_C K) "row"
def v_f_C_stretch (K : PySem.W.Frag) : Addr := He.ma K (v_C K) "stretch"
def v_f_C_writer (K : PySem.W.Frag) : Addr := He.ma K (v_C K) "writer"
def v_f_C_place_of (K : PySem.W.Frag) : Addr := He.ma K (v_C K) "place_of"
def v_f_C_worths_in (K : PySem.W.Frag) : Addr := He.ma K (v_C K) "worths_in"
def v_f_C_add_steps (K : PySem.W.Frag) : Addr := He.ma K (v_C K) "add_steps"
def v_f_C_need_make (K : PySem.W.Frag) : Addr := He.ma K (v_C K) "need_make"
def v_f_C_need_place (K : PySem.W.Frag) : Addr := He.ma K (v_C K) "need_place"
def v_f_C_need_stretch (K : PySem.W.Frag) : Addr := He.ma K (v_C K) "need_stretch"
def v_f_C_row_need_there (K : PySem.W.Frag) : Addr := He.ma K (v_C K) "_row_need_there"
def v_f_C_up_to_writer (K : PySem.W.Frag) : Addr := He.ma K (v_C K) "_up_to_writer"
def v_f_C_row_put (K : PySem.W.Frag) : Addr := He.ma K (v_C K) "_row_put"
def v_f_C_row_need_room_for (K : PySem.W.Frag) : Addr := He.ma K (v_C K) "_row_need_room_for"
def v_f_C_row_writers (K : PySem.W.Frag) : Addr := He.ma K (v_C K) "_row_writers"
def v_f_C_needed_no_more (K : PySem.W.Frag) : Addr := He.ma K (v_C K) "_needed_no_more"
def v_f_C_put (K : PySem.W.Frag) : Addr := He.ma K (v_C K) "put"
def v_f_C_need_new (K : PySem.W.Frag) : Addr := He.ma K (v_C K) "need_new"
def v_f_C_begin (K : PySem.W.Frag) : Addr := He.ma K (v_C K) "begin"
def v_f_C_store (K : PySem.W.Frag) : Addr := He.ma K (v_C K) "store"
def v_f_C_looked (K : PySem.W.Frag) : Addr := He.ma K (v_C K) "looked"
def v_f_C_freed (K : PySem.W.Frag) : Addr := He.ma K (v_C K) "freed"
def v_f_C_box (K : PySem.W.Frag) : Addr := He.ma K (v_C K) "box"
def v_f_C_room (K : PySem.W.Frag) : Addr := He.ma K (v_C K) "room"
def v_f_C_in_order (K : PySem.W.Frag) : Addr := He.ma K (v_C K) "in_order"
def v_f_C_found (K : PySem.W.Frag) : Addr := He.ma K (v_C K) "_found"
def v_f_C_turn_of_each (K : PySem.W.Frag) : Addr := He.ma K (v_C K) "_turn_of_each"
def v_f_CR_let_go (K : PySem.W.Frag) : Addr := He.ma K (v_CR K) "let_go"
def v_f_C_let_go (K : PySem.W.Frag) : Addr := He.ma K (v_C K) "let_go"
def tests0 (K : PySem.W.Frag) : List Bool := [
  He.eqO (PySem.W.nsIn K mainGlobals "found_by_halving") (some (some (.ref (v_f0 K)))),
  He.eqO (PySem.W.nsIn K mainGlobals "is_whole") (some (some (.ref (v_f1 K)))),
  He.eqO (PySem.W.nsIn K mainGlobals "is_worth") (some (some (.ref (v_f2 K)))),
  He.eqO (PySem.W.nsIn K mainGlobals "is_worths") (some (some (.ref (v_f3 K)))),
  He.eqO (PySem.W.nsIn K mainGlobals "_first_of_runs") (some (some (.ref (v_f4 K)))),
  He.eqO (PySem.W.nsIn K mainGlobals "_law_cell_at") (some (some (.ref (v_f5 K)))),
  He.eqO (PySem.W.nsIn K mainGlobals "_law_box") (some (some (.ref (v_f6 K)))),
  He.eqO (PySem.W.nsIn K mainGlobals "_law_take") (some (some (.ref (v_f7 K)))),
  He.eqO (PySem.W.nsIn K mainGlobals "_law_worth") (some (some (.ref (v_f8 K)))),
  He.eqO (PySem.W.nsIn K mainGlobals "_law_worths") (some (some (.ref (v_f9 K)))),
  He.eqO (PySem.W.nsIn K mainGlobals "_law_model") (some (some (.ref (v_f10 K)))),
  He.eqO (PySem.W.nsIn K mainGlobals "_law_written") (some (some (.ref (v_f11 K)))),
  He.eqO (PySem.W.nsIn K mainGlobals "_law_one_of") (some (some (.ref (v_f12 K)))),
  He.eqO (PySem.W.nsIn K mainGlobals "_law_last") (some (some (.ref (v_f13 K)))),
  He.eqO (PySem.W.nsIn K mainGlobals "_law_put") (some (some (.ref (v_f14 K)))),
  He.eqO (PySem.W.nsIn K mainGlobals "_law_come") (some (some (.ref (v_f15 K)))),
  He.eqO (PySem.W.nsIn K mainGlobals "_law_runs") (some (some (.ref (v_f16 K)))),
  He.eqO (PySem.W.nsIn K mainGlobals "_law_reads") (some (some (.ref (v_f17 K)))),
  He.eqO (PySem.W.nsIn K mainGlobals "_law_caught") (some (some (.ref (v_f18 K)))),
  He.eqO (PySem.W.nsIn K mainGlobals "_law_told") (some (some (.ref (v_f19 K)))),
  He.eqO (PySem.W.nsIn K mainGlobals "_law_ask") (some (some (.ref (v_f20 K)))),
  He.eqO (PySem.W.nsIn K mainGlobals "_law_bad_ask") (some (some (.ref (v_f21 K)))),
  He.eqO (PySem.W.nsIn K mainGlobals "_law_asks_refused") (some (some (.ref (v_f22 K)))),
  He.eqO (PySem.W.nsIn K mainGlobals "_law_let_go") (some (some (.ref (v_f23 K)))),
  He.eqO (PySem.W.nsIn K mainGlobals "law") (some (some (.ref (v_f24 K))))]
def tests1 (K : PySem.W.Frag) : List Bool := [
  He.eqO (PySem.W.nsIn K mainGlobals "len") (some none),
  He.eqO (PySem.W.nsIn K mainGlobals "max") (some none),
  He.eqO (PySem.W.nsIn K mainGlobals "min") (some none),
  He.eqO (PySem.W.nsIn K mainGlobals "range") (some none),
  He.eqO (PySem.W.nsIn K mainGlobals "repr") (some none),
  He.eqO (PySem.W.nsIn K mainGlobals "all") (some none),
  He.eqO (PySem.W.nsIn K mainGlobals "enumerate") (some none),
  He.eqO (PySem.W.nsIn K mainGlobals "tuple") (some none),
  He.eqO (PySem.W.nsIn K mainGlobals "isinstance") (some none),
  He.eqO (PySem.W.nsIn K mainGlobals "int") (some none),
  He.eqO (PySem.W.nsIn K mainGlobals "bool") (some none),
  He.eqO (PySem.W.nsIn K mainGlobals "list") (some none),
  He.eqO (PySem.W.nsIn K mainGlobals "sum") (some none),
  He.eqO (PySem.W.nsIn K mainGlobals "zip") (some none),
  He.eqO (PySem.W.nsIn K mainGlobals "sorted") (some none),
  He.eqO (PySem.W.nsIn K mainGlobals "reversed") (some none),
  He.eqO (PySem.W.nsIn K mainGlobals "MOST_MAKES") (some (some (.int 64 (Gh.tkOf K "MOST_MAKES")))),
  He.eqO (PySem.W.nsIn K mainGlobals "MOST_CHANGES") (some (some (.int 20 (Gh.tkOf K "MOST_CHANGES")))),
  He.eqO (PySem.W.nsIn K mainGlobals "MOST_PLACES") (some (some (.int 16 (Gh.tkOf K "MOST_PLACES")))),
  He.eqO (PySem.W.nsIn K mainGlobals "MOST_WORTH") (some (some (.int (10 ^ 30 - 1) (Gh.tkOf K "MOST_WORTH")))),
  He.eqO (PySem.W.nsIn K mainGlobals "MakeTree") (some (some (.ref (v_CM K)))),
  He.eqO (PySem.W.nsIn K mainGlobals "LeapTree") (some (some (.ref (v_CL K)))),
  PySem.W.plainGet K (v_CL K) Str.empty,
  PySem.W.hasDictIn K (v_CL K),
  PySem.W.plainOver K (v_CL K)]
def tests2 (K : PySem.W.Frag) : List Bool := [
  He.eqO (PySem.W.findIn K (.ref (v_CL K)) "__setattr__") (some (some (.builtin "object.__setattr__"))),
  He.eqO (PySem.W.findIn K (.ref (v_CL K)) "_owns") (some none),
  He.eqO (PySem.W.findIn K (.ref (v_CL K)) "_depths") (some none),
  He.eqO (PySem.W.findIn K (.ref (v_CL K)) "_on") (some none),
  He.eqO (PySem.W.findIn K (.ref (v_CL K)) "_leaps") (some none),
  PySem.W.makesIn K (v_CL K),
  PySem.W.keepIn K (.ref (v_CL K)),
  He.eqO (PySem.W.findIn K (.ref (v_CL K)) "many") (some (some (.ref (v_f_CM_many K)))),
  He.eqO (PySem.W.findIn K (.ref (v_CL K)) "_need_make") (some (some (.ref (v_f_CM_need_make K)))),
  He.eqO (PySem.W.findIn K (.ref (v_CL K)) "own") (some (some (.ref (v_f_CM_own K)))),
  He.eqO (PySem.W.findIn K (.ref (v_CL K)) "line") (some (some (.ref (v_f_CM_line K)))),
  He.eqO (PySem.W.findIn K (.ref (v_CM K)) "grow") (some (some (.ref (v_f_CM_grow K)))),
  He.eqO (PySem.W.findIn K (.ref (v_CM K)) "__init__") (some (some (.ref (v_f_CM_init K)))),
  He.eqO (PySem.W.findIn K (.ref (v_CL K)) "_leaps_through") (some (some (.ref (v_f_CL_leaps_through K)))),
  He.eqO (PySem.W.nsIn K cStatics "thirdparty.any") (some none),
  He.eqO (PySem.W.nsIn K mainGlobals "super") (some none),
  decide (PySem.W.mroIn K (v_CL K) (.ref (v_CL K)) = some true),
  He.eqO (PySem.W.findIn K (.ref (v_CL K)) "grow") (some (some (.ref (v_f_CL_grow K)))),
  He.eqO (PySem.W.ks_superIn K (v_CL K) (v_CL K) "grow") (some (some (.ref (v_f_CM_grow K)))),
  He.eqO (PySem.W.findIn K (.ref (v_CL K)) "__init__") (some (some (.ref (v_f_CL_init K)))),
  He.eqO (PySem.W.ks_superIn K (v_CL K) (v_CL K) "__init__") (some (some (.ref (v_f_CM_init K)))),
  He.eqO (PySem.W.nsIn K mainGlobals "Boxed") (some (some (.ref (v_C K)))),
  PySem.W.plainGet K (v_C K) Str.empty,
  PySem.W.hasDictIn K (v_C K),
  PySem.W.plainOver K (v_C K)]
def tests3 (K : PySem.W.Frag) : List Bool := [
  He.eqO (PySem.W.findIn K (.ref (v_C K)) "__setattr__") (some (some (.builtin "object.__setattr__"))),
  He.eqO (PySem.W.findIn K (.ref (v_C K)) "_row_size") (some none),
  He.eqO (PySem.W.findIn K (.ref (v_C K)) "_row_tree") (some none),
  He.eqO (PySem.W.findIn K (.ref (v_C K)) "_row_places") (some none),
  He.eqO (PySem.W.findIn K (.ref (v_C K)) "_row_kept") (some none),
  He.eqO (PySem.W.findIn K (.ref (v_C K)) "_row_steps") (some none),
  He.eqO (PySem.W.findIn K (.ref (v_C K)) "_order") (some none),
  He.eqO (PySem.W.findIn K (.ref (v_C K)) "_boxes") (some none),
  PySem.W.makesIn K (v_C K),
  PySem.W.keepIn K (.ref (v_C K)),
  He.eqO (PySem.W.findIn K (.ref (v_C K)) "__init__") (some (some (.ref (v_f_C_init K)))),
  He.eqO (PySem.W.findIn K (.ref (v_C K)) "size") (some (some (.ref (v_f_C_size K)))),
  He.eqO (PySem.W.findIn K (.ref (v_C K)) "many") (some (some (.ref (v_f_C_many K)))),
  He.eqO (PySem.W.findIn K (.ref (v_C K)) "makes") (some (some (.ref (v_f_C_makes K)))),
  He.eqO (PySem.W.findIn K (.ref (v_C K)) "at") (some (some (.ref (v_f_C_at K)))),
  He.eqO (PySem.W.findIn K (.ref (v_C K)) "row") (some (some (.ref (v_f_C_row K)))),
  He.eqO (PySem.W.findIn K (.ref (v_C K)) "stretch") (some (some (.ref (v_f_C_stretch K)))),
  He.eqO (PySem.W.findIn K (.ref (v_C K)) "writer") (some (some (.ref (v_f_C_writer K)))),
  He.eqO (PySem.W.findIn K (.ref (v_C K)) "place_of") (some (some (.ref (v_f_C_place_of K)))),
  He.eqO (PySem.W.findIn K (.ref (v_C K)) "worths_in") (some (some (.ref (v_f_C_worths_in K)))),
  He.eqO (PySem.W.findIn K (.ref (v_C K)) "add_steps") (some (some (.ref (v_f_C_add_steps K)))),
  He.eqO (PySem.W.findIn K (.ref (v_C K)) "need_make") (some (some (.ref (v_f_C_need_make K)))),
  He.eqO (PySem.W.findIn K (.ref (v_C K)) "need_place") (some (some (.ref (v_f_C_need_place K)))),
  He.eqO (PySem.W.findIn K (.ref (v_C K)) "need_stretch") (some (some (.ref (v_f_C_need_stretch K)))),
  He.eqO (PySem.W.findIn K (.ref (v_C K)) "_row_need_there") (some (some (.ref (v_f_C_row_need_there K))))]
def tests4 (K : PySem.W.Frag) : List Bool := [
  He.eqO (PySem.W.findIn K (.ref (v_C K)) "_up_to_writer") (some (some (.ref (v_f_C_up_to_writer K)))),
  He.eqO (PySem.W.findIn K (.ref (v_C K)) "_row_put") (some (some (.ref (v_f_C_row_put K)))),
  He.eqO (PySem.W.findIn K (.ref (v_C K)) "_row_need_room_for") (some (some (.ref (v_f_C_row_need_room_for K)))),
  He.eqO (PySem.W.findIn K (.ref (v_C K)) "_row_writers") (some (some (.ref (v_f_C_row_writers K)))),
  He.eqO (PySem.W.findIn K (.ref (v_C K)) "_needed_no_more") (some (some (.ref (v_f_C_needed_no_more K)))),
  He.eqO (PySem.W.findIn K (.ref (v_C K)) "put") (some (some (.ref (v_f_C_put K)))),
  He.eqO (PySem.W.findIn K (.ref (v_C K)) "need_new") (some (some (.ref (v_f_C_need_new K)))),
  He.eqO (PySem.W.findIn K (.ref (v_C K)) "begin") (some (some (.ref (v_f_C_begin K)))),
  He.eqO (PySem.W.findIn K (.ref (v_C K)) "store") (some (some (.ref (v_f_C_store K)))),
  He.eqO (PySem.W.findIn K (.ref (v_C K)) "looked") (some (some (.ref (v_f_C_looked K)))),
  He.eqO (PySem.W.findIn K (.ref (v_C K)) "freed") (some (some (.ref (v_f_C_freed K)))),
  He.eqO (PySem.W.findIn K (.ref (v_C K)) "box") (some (some (.ref (v_f_C_box K)))),
  He.eqO (PySem.W.findIn K (.ref (v_C K)) "room") (some (some (.ref (v_f_C_room K)))),
  He.eqO (PySem.W.findIn K (.ref (v_C K)) "in_order") (some (some (.ref (v_f_C_in_order K)))),
  He.eqO (PySem.W.findIn K (.ref (v_C K)) "_found") (some (some (.ref (v_f_C_found K)))),
  He.eqO (PySem.W.findIn K (.ref (v_C K)) "_turn_of_each") (some (some (.ref (v_f_C_turn_of_each K)))),
  He.eqO (PySem.W.nsIn K mainGlobals "Rows") (some (some (.ref (v_CR K)))),
  He.eqO (PySem.W.findIn K (.ref (v_CR K)) "let_go") (some (some (.ref (v_f_CR_let_go K)))),
  decide (PySem.W.mroIn K (v_C K) (.ref (v_C K)) = some true),
  He.eqO (PySem.W.findIn K (.ref (v_C K)) "let_go") (some (some (.ref (v_f_C_let_go K)))),
  He.eqO (PySem.W.ks_superIn K (v_C K) (v_C K) "let_go") (some (some (.ref (v_f_CR_let_go K)))),
  He.eqO (PySem.W.nsIn K mainGlobals "MakesError") (some (some (.ref (v_CE K)))),
  PySem.W.isClsIn K (v_CE K),
  decide (PySem.W.typeIn K (.ref (v_CE K)) = some (.type "type")),
  decide (PySem.W.subIn K (.ref (v_CE K)) (.type "BaseException") = some true)]
def tests5 (K : PySem.W.Frag) : List Bool := [
  He.eqO (PySem.W.nsIn K mainGlobals "Alone") (some (some (.ref (v_CA K)))),
  He.eqO (PySem.W.findIn K (.ref (v_CA K)) "__setattr__") (some (some (.builtin "object.__setattr__"))),
  He.eqO (PySem.W.findIn K (.ref (v_CA K)) "__getattribute__") (some (some (.builtin "BaseException.__getattribute__"))),
  He.eqO (PySem.W.findIn K (.ref (v_CA K)) "__getattr__") (some none),
  He.eqO (PySem.W.findIn K (.ref (v_CA K)) "found") (some none),
  He.eqO (PySem.W.findIn K (.ref (v_CA K)) "__init__") (some (some (.ref (v_fA K)))),
  PySem.W.keepIn K (.ref (v_CA K)),
  decide (PySem.W.subIn K (.ref (v_CA K)) (.type "BaseException") = some true),
  decide (PySem.W.subIn K (.ref (v_CA K)) (.type "ValueError") = some true),
  decide (PySem.W.typeIn K (.ref (v_CA K)) = some (.type "type")),
  PySem.W.hasDictIn K (v_CA K),
  decide (PySem.W.mroIn K (v_CA K) (.ref (v_CA K)) = some true),
  He.eqO (PySem.W.ks_superIn K (v_CA K) (v_CA K) "__init__") (some (some (.builtin "ValueError.__init__"))),
  He.eqO (PySem.W.findIn K (.ref (v_CA K)) "__class__") (some (some (.builtin "object.__class__"))),
  He.eqO (PySem.W.specialIn K (.builtin "object.__class__") "__get__") (some (some (.builtin "getset_descriptor.__get__"))),
  decide (PySem.W.takesIn K (.builtin "object.__class__") = some true),
  decide (PySem.W.mroIn K (v_CA K) (.type "object") = some true),
  decide (PySem.W.subIn K (.ref (v_CA K)) (.ref (v_CE K)) = some true),
  He.eqO (PySem.W.nsIn K mainGlobals "NoMake") (some (some (.ref (v_CN K)))),
  He.eqO (PySem.W.findIn K (.ref (v_CN K)) "__setattr__") (some (some (.builtin "object.__setattr__"))),
  He.eqO (PySem.W.findIn K (.ref (v_CN K)) "__getattribute__") (some (some (.builtin "BaseException.__getattribute__"))),
  He.eqO (PySem.W.findIn K (.ref (v_CN K)) "__getattr__") (some none),
  He.eqO (PySem.W.findIn K (.ref (v_CN K)) "found") (some none),
  He.eqO (PySem.W.findIn K (.ref (v_CN K)) "__init__") (some (some (.ref (v_fN K)))),
  PySem.W.keepIn K (.ref (v_CN K))]
def tests6 (K : PySem.W.Frag) : List Bool := [
  decide (PySem.W.subIn K (.ref (v_CN K)) (.type "BaseException") = some true),
  decide (PySem.W.subIn K (.ref (v_CN K)) (.type "ValueError") = some true),
  decide (PySem.W.typeIn K (.ref (v_CN K)) = some (.type "type")),
  PySem.W.hasDictIn K (v_CN K),
  decide (PySem.W.mroIn K (v_CN K) (.ref (v_CN K)) = some true),
  He.eqO (PySem.W.ks_superIn K (v_CN K) (v_CN K) "__init__") (some (some (.builtin "ValueError.__init__"))),
  He.eqO (PySem.W.findIn K (.ref (v_CN K)) "__class__") (some (some (.builtin "object.__class__"))),
  He.eqO (PySem.W.specialIn K (.builtin "object.__class__") "__get__") (some (some (.builtin "getset_descriptor.__get__"))),
  decide (PySem.W.takesIn K (.builtin "object.__class__") = some true),
  decide (PySem.W.mroIn K (v_CN K) (.type "object") = some true),
  decide (PySem.W.subIn K (.ref (v_CN K)) (.ref (v_CE K)) = some true),
  He.eqO (PySem.W.nsIn K mainGlobals "NoPlace") (some (some (.ref (v_CP K)))),
  He.eqO (PySem.W.findIn K (.ref (v_CP K)) "__setattr__") (some (some (.builtin "object.__setattr__"))),
  He.eqO (PySem.W.findIn K (.ref (v_CP K)) "__getattribute__") (some (some (.builtin "BaseException.__getattribute__"))),
  He.eqO (PySem.W.findIn K (.ref (v_CP K)) "__getattr__") (some none),
  He.eqO (PySem.W.findIn K (.ref (v_CP K)) "found") (some none),
  He.eqO (PySem.W.findIn K (.ref (v_CP K)) "__init__") (some (some (.ref (v_fP K)))),
  PySem.W.keepIn K (.ref (v_CP K)),
  decide (PySem.W.subIn K (.ref (v_CP K)) (.type "BaseException") = some true),
  decide (PySem.W.subIn K (.ref (v_CP K)) (.type "ValueError") = some true),
  decide (PySem.W.typeIn K (.ref (v_CP K)) = some (.type "type")),
  PySem.W.hasDictIn K (v_CP K),
  decide (PySem.W.mroIn K (v_CP K) (.ref (v_CP K)) = some true),
  He.eqO (PySem.W.ks_superIn K (v_CP K) (v_CP K) "__init__") (some (some (.builtin "ValueError.__init__"))),
  He.eqO (PySem.W.findIn K (.ref (v_CP K)) "__class__") (some (some (.builtin "object.__class__")))]
def tests7 (K : PySem.W.Frag) : List Bool := [
  He.eqO (PySem.W.specialIn K (.builtin "object.__class__") "__get__") (some (some (.builtin "getset_descriptor.__get__"))),
  decide (PySem.W.takesIn K (.builtin "object.__class__") = some true),
  decide (PySem.W.mroIn K (v_CP K) (.type "object") = some true),
  decide (PySem.W.subIn K (.ref (v_CP K)) (.ref (v_CE K)) = some true),
  He.eqO (PySem.W.nsIn K mainGlobals "NoStretch") (some (some (.ref (v_CS K)))),
  He.eqO (PySem.W.findIn K (.ref (v_CS K)) "__setattr__") (some (some (.builtin "object.__setattr__"))),
  He.eqO (PySem.W.findIn K (.ref (v_CS K)) "__getattribute__") (some (some (.builtin "BaseException.__getattribute__"))),
  He.eqO (PySem.W.findIn K (.ref (v_CS K)) "__getattr__") (some none),
  He.eqO (PySem.W.findIn K (.ref (v_CS K)) "low") (some none),
  He.eqO (PySem.W.findIn K (.ref (v_CS K)) "__init__") (some (some (.ref (v_fS K)))),
  PySem.W.keepIn K (.ref (v_CS K)),
  decide (PySem.W.subIn K (.ref (v_CS K)) (.type "BaseException") = some true),
  decide (PySem.W.subIn K (.ref (v_CS K)) (.type "ValueError") = some true),
  decide (PySem.W.typeIn K (.ref (v_CS K)) = some (.type "type")),
  PySem.W.hasDictIn K (v_CS K),
  decide (PySem.W.mroIn K (v_CS K) (.ref (v_CS K)) = some true),
  He.eqO (PySem.W.ks_superIn K (v_CS K) (v_CS K) "__init__") (some (some (.builtin "ValueError.__init__"))),
  He.eqO (PySem.W.findIn K (.ref (v_CS K)) "__class__") (some (some (.builtin "object.__class__"))),
  He.eqO (PySem.W.specialIn K (.builtin "object.__class__") "__get__") (some (some (.builtin "getset_descriptor.__get__"))),
  decide (PySem.W.takesIn K (.builtin "object.__class__") = some true),
  decide (PySem.W.mroIn K (v_CS K) (.type "object") = some true),
  decide (PySem.W.subIn K (.ref (v_CS K)) (.ref (v_CE K)) = some true),
  He.eqO (PySem.W.findIn K (.ref (v_CS K)) "high") (some none),
  decide (PySem.W.kitOne K (.ref (v_CN K)) (.ref (v_CA K)) = some false),
  decide (PySem.W.kitOne K (.ref (v_CP K)) (.ref (v_CA K)) = some false)]
def tests8 (K : PySem.W.Frag) : List Bool := [
  decide (PySem.W.kitOne K (.ref (v_CP K)) (.ref (v_CN K)) = some false),
  decide (PySem.W.kitOne K (.ref (v_CS K)) (.ref (v_CA K)) = some false),
  decide (PySem.W.kitOne K (.ref (v_CS K)) (.ref (v_CN K)) = some false),
  decide (PySem.W.kitOne K (.ref (v_CS K)) (.ref (v_CP K)) = some false),
  PySem.W.codeIn K (Gh.cdOf K (v_f0 K)) "found_by_halving",
  PySem.W.codeIn K (Gh.cdOf K (v_f1 K)) "is_whole",
  PySem.W.codeIn K (Gh.cdOf K (v_f2 K)) "is_worth",
  PySem.W.codeIn K (Gh.cdOf K (v_f3 K)) "is_worths",
  PySem.W.codeIn K (Gh.cdOf K (v_f4 K)) "_first_of_runs",
  PySem.W.codeIn K (Gh.cdOf K (v_f5 K)) "_law_cell_at",
  PySem.W.codeIn K (Gh.cdOf K (v_f6 K)) "_law_box",
  PySem.W.codeIn K (Gh.cdOf K (v_f7 K)) "_law_take",
  PySem.W.codeIn K (Gh.cdOf K (v_f8 K)) "_law_worth",
  PySem.W.codeIn K (Gh.cdOf K (v_f9 K)) "_law_worths",
  PySem.W.codeIn K (Gh.cdOf K (v_f10 K)) "_law_model",
  PySem.W.codeIn K (Gh.cdOf K (v_f11 K)) "_law_written",
  PySem.W.codeIn K (Gh.cdOf K (v_f12 K)) "_law_one_of",
  PySem.W.codeIn K (Gh.cdOf K (v_f13 K)) "_law_last",
  PySem.W.codeIn K (Gh.cdOf K (v_f14 K)) "_law_put",
  PySem.W.codeIn K (Gh.cdOf K (v_f15 K)) "_law_come",
  PySem.W.codeIn K (Gh.cdOf K (v_f16 K)) "_law_runs",
  PySem.W.codeIn K (Gh.cdOf K (v_f17 K)) "_law_reads",
  PySem.W.codeIn K (Gh.cdOf K (v_f18 K)) "_law_caught",
  PySem.W.codeIn K (Gh.cdOf K (v_f19 K)) "_law_told",
  PySem.W.codeIn K (Gh.cdOf K (v_f20 K)) "_law_ask"]
def tests9 (K : PySem.W.Frag) : List Bool := [
  PySem.W.codeIn K (Gh.cdOf K (v_f21 K)) "_law_bad_ask",
  PySem.W.codeIn K (Gh.cdOf K (v_f22 K)) "_law_asks_refused",
  PySem.W.codeIn K (Gh.cdOf K (v_f23 K)) "_law_let_go",
  PySem.W.codeIn K (Gh.cdOf K (v_f24 K)) "law",
  PySem.W.codeIn K (Gh.cdOf K (v_f_CM_many K)) "MakeTree.many",
  PySem.W.codeIn K (Gh.cdOf K (v_f_CM_need_make K)) "MakeTree._need_make",
  PySem.W.codeIn K (Gh.cdOf K (v_f_CM_own K)) "MakeTree.own",
  PySem.W.codeIn K (Gh.cdOf K (v_f_CM_line K)) "MakeTree.line",
  PySem.W.codeIn K (Gh.cdOf K (v_f_CM_grow K)) "MakeTree.grow",
  PySem.W.codeIn K (Gh.cdOf K (v_f_CM_init K)) "MakeTree.__init__",
  PySem.W.codeIn K (Gh.cdOf K (v_f_CL_leaps_through K)) "LeapTree._leaps_through",
  Gh.clsB K (v_CL K),
  Gh.supB K (v_f_CL_grow K) (v_CL K) (PySem.Challenge.rw_makeskept_k46_boxed_makes_let_go).prog.main.file "LeapTree.grow",
  Gh.supB K (v_f_CL_init K) (v_CL K) (PySem.Challenge.rw_makeskept_k46_boxed_makes_let_go).prog.main.file "LeapTree.__init__",
  PySem.W.codeIn K (Gh.cdOf K (v_f_C_init K)) "Rows.__init__",
  PySem.W.codeIn K (Gh.cdOf K (v_f_C_size K)) "Rows.size",
  PySem.W.codeIn K (Gh.cdOf K (v_f_C_many K)) "Rows.many",
  PySem.W.codeIn K (Gh.cdOf K (v_f_C_makes K)) "Rows.makes",
  PySem.W.codeIn K (Gh.cdOf K (v_f_C_at K)) "Rows.at",
  PySem.W.codeIn K (Gh.cdOf K (v_f_C_row K)) "Rows.row",
  PySem.W.codeIn K (Gh.cdOf K (v_f_C_stretch K)) "Rows.stretch",
  PySem.W.codeIn K (Gh.cdOf K (v_f_C_writer K)) "Rows.writer",
  PySem.W.codeIn K (Gh.cdOf K (v_f_C_place_of K)) "Rows.place_of",
  PySem.W.codeIn K (Gh.cdOf K (v_f_C_worths_in K)) "Rows.worths_in",
  PySem.W.codeIn K (Gh.cdOf K (v_f_C_add_steps K)) "Rows.add_steps"]
def tests10 (K : PySem.W.Frag) : List Bool := [
  PySem.W.codeIn K (Gh.cdOf K (v_f_C_need_make K)) "Rows.need_make",
  PySem.W.codeIn K (Gh.cdOf K (v_f_C_need_place K)) "Rows.need_place",
  PySem.W.codeIn K (Gh.cdOf K (v_f_C_need_stretch K)) "Rows.need_stretch",
  PySem.W.codeIn K (Gh.cdOf K (v_f_C_row_need_there K)) "Rows._row_need_there",
  PySem.W.codeIn K (Gh.cdOf K (v_f_C_up_to_writer K)) "Rows._up_to_writer",
  PySem.W.codeIn K (Gh.cdOf K (v_f_C_row_put K)) "Rows._row_put",
  PySem.W.codeIn K (Gh.cdOf K (v_f_C_row_need_room_for K)) "Rows._row_need_room_for",
  PySem.W.codeIn K (Gh.cdOf K (v_f_C_row_writers K)) "Rows._row_writers",
  PySem.W.codeIn K (Gh.cdOf K (v_f_C_needed_no_more K)) "Rows._needed_no_more",
  PySem.W.codeIn K (Gh.cdOf K (v_f_C_put K)) "Rows.put",
  PySem.W.codeIn K (Gh.cdOf K (v_f_C_need_new K)) "Rows.need_new",
  PySem.W.codeIn K (Gh.cdOf K (v_f_C_begin K)) "Boxed.begin",
  PySem.W.codeIn K (Gh.cdOf K (v_f_C_store K)) "Boxed.store",
  PySem.W.codeIn K (Gh.cdOf K (v_f_C_looked K)) "Boxed.looked",
  PySem.W.codeIn K (Gh.cdOf K (v_f_C_freed K)) "Boxed.freed",
  PySem.W.codeIn K (Gh.cdOf K (v_f_C_box K)) "Boxed.box",
  PySem.W.codeIn K (Gh.cdOf K (v_f_C_room K)) "Boxed.room",
  PySem.W.codeIn K (Gh.cdOf K (v_f_C_in_order K)) "Boxed.in_order",
  PySem.W.codeIn K (Gh.cdOf K (v_f_C_found K)) "Boxed._found",
  PySem.W.codeIn K (Gh.cdOf K (v_f_C_turn_of_each K)) "Boxed._turn_of_each",
  PySem.W.codeIn K (Gh.cdOf K (v_f_CR_let_go K)) "Rows.let_go",
  Gh.clsB K (v_C K),
  Gh.supB K (v_f_C_let_go K) (v_C K) (PySem.Challenge.rw_makeskept_k46_boxed_makes_let_go).prog.main.file "Boxed.let_go",
  Gh.supB K (v_fA K) (v_CA K) (PySem.Challenge.rw_makeskept_k46_boxed_makes_let_go).prog.main.file "Alone.__init__",
  Gh.excB K (v_CA K) (v_CE K)]
def tests11 (K : PySem.W.Frag) : List Bool := [
  Gh.supB K (v_fN K) (v_CN K) (PySem.Challenge.rw_makeskept_k46_boxed_makes_let_go).prog.main.file "NoMake.__init__",
  Gh.excB K (v_CN K) (v_CE K),
  Gh.supB K (v_fP K) (v_CP K) (PySem.Challenge.rw_makeskept_k46_boxed_makes_let_go).prog.main.file "NoPlace.__init__",
  Gh.excB K (v_CP K) (v_CE K),
  Gh.supB K (v_fS K) (v_CS K) (PySem.Challenge.rw_makeskept_k46_boxed_makes_let_go).prog.main.file "NoStretch.__init__",
  Gh.excB K (v_CS K) (v_CE K)]
def fns0 (K : PySem.W.Frag) : List Gh.FnW := [
  Gh.fW K (v_f0 K),
  Gh.fW K (v_f1 K),
  Gh.fW K (v_f2 K),
  Gh.fW K (v_f3 K),
  Gh.fW K (v_f4 K),
  Gh.fW K (v_f5 K),
  Gh.fW K (v_f6 K),
  Gh.fW K (v_f7 K),
  Gh.fW K (v_f8 K),
  Gh.fW K (v_f9 K),
  Gh.fW K (v_f10 K),
  Gh.fW K (v_f11 K),
  Gh.fW K (v_f12 K),
  Gh.fW K (v_f13 K),
  Gh.fW K (v_f14 K),
  Gh.fW K (v_f15 K),
  Gh.fW K (v_f16 K),
  Gh.fW K (v_f17 K),
  Gh.fW K (v_f18 K),
  Gh.fW K (v_f19 K),
  Gh.fW K (v_f20 K),
  Gh.fW K (v_f21 K),
  Gh.fW K (v_f22 K),
  Gh.fW K (v_f23 K),
  Gh.fW K (v_f24 K)]
def vals0 : List Gh.FnW := [
  Gh.fV "found_by_halving" "found_by_halving" s_found_by_halving [],
  Gh.fV "is_whole" "is_whole" s_is_whole [],
  Gh.fV "is_worth" "is_worth" s_is_worth [],
  Gh.fV "is_worths" "is_worths" s_is_worths [],
  Gh.fV "_first_of_runs" "_first_of_runs" s__first_of_runs [],
  Gh.fV "_law_cell_at" "_law_cell_at" s__law_cell_at [],
  Gh.fV "_law_box" "_law_box" s__law_box [],
  Gh.fV "_law_take" "_law_take" s__law_take [],
  Gh.fV "_law_worth" "_law_worth" s__law_worth [],
  Gh.fV "_law_worths" "_law_worths" s__law_worths [],
  Gh.fV "_law_model" "_law_model" s__law_model [],
  Gh.fV "_law_written" "_law_written" s__law_written [],
  Gh.fV "_law_one_of" "_law_one_of" s__law_one_of [],
  Gh.fV "_law_last" "_law_last" s__law_last [],
  Gh.fV "_law_put" "_law_put" s__law_put [],
  Gh.fV "_law_come" "_law_come" s__law_come [],
  Gh.fV "_law_runs" "_law_runs" s__law_runs [],
  Gh.fV "_law_reads" "_law_reads" s__law_reads [],
  Gh.fV "_law_caught" "_law_caught" s__law_caught [],
  Gh.fV "_law_told" "_law_told" s__law_told [],
  Gh.fV "_law_ask" "_law_ask" s__law_ask [],
  Gh.fV "_law_bad_ask" "_law_bad_ask" s__law_bad_ask [],
  Gh.fV "_law_asks_refused" "_law_asks_refused" s__law_asks_refused [],
  Gh.fV "_law_let_go" "_law_let_go" s__law_let_go [],
  Gh.fV "law" "law" s_law []]
def fns1 (K : PySem.W.Frag) : List Gh.FnW := [
  Gh.fW K (v_f_CM_many K),
  Gh.fW K (v_f_CM_need_make K),
  Gh.fW K (v_f_CM_own K),
  Gh.fW K (v_f_CM_line K),
  Gh.fW K (v_f_CM_grow K),
  Gh.fW K (v_f_CM_init K),
  Gh.fW K (v_f_CL_leaps_through K),
  Gh.fW K (v_f_CL_grow K),
  Gh.fW K (v_f_CL_init K),
  Gh.fW K (v_f_C_init K),
  Gh.fW K (v_f_C_size K),
  Gh.fW K (v_f_C_many K),
  Gh.fW K (v_f_C_makes K),
  Gh.fW K (v_f_C_at K),
  Gh.fW K (v_f_C_row K),
  Gh.fW K (v_f_C_stretch K),
  Gh.fW K (v_f_C_writer K),
  Gh.fW K (v_f_C_place_of K),
  Gh.fW K (v_f_C_worths_in K),
  Gh.fW K (v_f_C_add_steps K),
  Gh.fW K (v_f_C_need_make K),
  Gh.fW K (v_f_C_need_place K),
  Gh.fW K (v_f_C_need_stretch K),
  Gh.fW K (v_f_C_row_need_there K),
  Gh.fW K (v_f_C_up_to_writer K)]
def vals1 : List Gh.FnW := [
  Gh.fV "many" "MakeTree.many" s_MakeTree_many [],
  Gh.fV "_need_make" "MakeTree._need_make" s_MakeTree__need_make [],
  Gh.fV "own" "MakeTree.own" s_MakeTree_own [],
  Gh.fV "line" "MakeTree.line" s_MakeTree_line [],
  Gh.fV "grow" "MakeTree.grow" s_MakeTree_grow [],
  Gh.fV "__init__" "MakeTree.__init__" s_MakeTree___init__ [],
  Gh.fV "_leaps_through" "LeapTree._leaps_through" s_LeapTree__leaps_through [],
  Gh.fV "grow" "LeapTree.grow" s_LeapTree_grow ["__class__"],
  Gh.fV "__init__" "LeapTree.__init__" s_LeapTree___init__ ["__class__"],
  Gh.fV "__init__" "Rows.__init__" s_Rows___init__ [],
  Gh.fV "size" "Rows.size" s_Rows_size [],
  Gh.fV "many" "Rows.many" s_Rows_many [],
  Gh.fV "makes" "Rows.makes" s_Rows_makes [],
  Gh.fV "at" "Rows.at" s_Rows_at [],
  Gh.fV "row" "Rows.row" s_Rows_row [],
  Gh.fV "stretch" "Rows.stretch" s_Rows_stretch [],
  Gh.fV "writer" "Rows.writer" s_Rows_writer [],
  Gh.fV "place_of" "Rows.place_of" s_Rows_place_of [],
  Gh.fV "worths_in" "Rows.worths_in" s_Rows_worths_in [],
  Gh.fV "add_steps" "Rows.add_steps" s_Rows_add_steps [],
  Gh.fV "need_make" "Rows.need_make" s_Rows_need_make [],
  Gh.fV "need_place" "Rows.need_place" s_Rows_need_place [],
  Gh.fV "need_stretch" "Rows.need_stretch" s_Rows_need_stretch [],
  Gh.fV "_row_need_there" "Rows._row_need_there" s_Rows__row_need_there [],
  Gh.fV "_up_to_writer" "Rows._up_to_writer" s_Rows__up_to_writer []]
def fns2 (K : PySem.W.Frag) : List Gh.FnW := [
  Gh.fW K (v_f_C_row_put K),
  Gh.fW K (v_f_C_row_need_room_for K),
  Gh.fW K (v_f_C_row_writers K),
  Gh.fW K (v_f_C_needed_no_more K),
  Gh.fW K (v_f_C_put K),
  Gh.fW K (v_f_C_need_new K),
  Gh.fW K (v_f_C_begin K),
  Gh.fW K (v_f_C_store K),
  Gh.fW K (v_f_C_looked K),
  Gh.fW K (v_f_C_freed K),
  Gh.fW K (v_f_C_box K),
  Gh.fW K (v_f_C_room K),
  Gh.fW K (v_f_C_in_order K),
  Gh.fW K (v_f_C_found K),
  Gh.fW K (v_f_C_turn_of_each K),
  Gh.fW K (v_f_CR_let_go K),
  Gh.fW K (v_f_C_let_go K),
  Gh.fW K (v_fA K),
  Gh.fW K (v_fN K),
  Gh.fW K (v_fP K),
  Gh.fW K (v_fS K)]
def vals2 : List Gh.FnW := [
  Gh.fV "_row_put" "Rows._row_put" s_Rows__row_put [],
  Gh.fV "_row_need_room_for" "Rows._row_need_room_for" s_Rows__row_need_room_for [],
  Gh.fV "_row_writers" "Rows._row_writers" s_Rows__row_writers [],
  Gh.fV "_needed_no_more" "Rows._needed_no_more" s_Rows__needed_no_more [],
  Gh.fV "put" "Rows.put" s_Rows_put [],
  Gh.fV "need_new" "Rows.need_new" s_Rows_need_new [],
  Gh.fV "begin" "Boxed.begin" s_Boxed_begin [],
  Gh.fV "store" "Boxed.store" s_Boxed_store [],
  Gh.fV "looked" "Boxed.looked" s_Boxed_looked [],
  Gh.fV "freed" "Boxed.freed" s_Boxed_freed [],
  Gh.fV "box" "Boxed.box" s_Boxed_box [],
  Gh.fV "room" "Boxed.room" s_Boxed_room [],
  Gh.fV "in_order" "Boxed.in_order" s_Boxed_in_order [],
  Gh.fV "_found" "Boxed._found" s_Boxed__found [],
  Gh.fV "_turn_of_each" "Boxed._turn_of_each" s_Boxed__turn_of_each [],
  Gh.fV "let_go" "Rows.let_go" s_Rows_let_go [],
  Gh.fV "let_go" "Boxed.let_go" s_Boxed_let_go ["__class__"],
  Gh.fV "__init__" "Alone.__init__" s_Alone___init__ ["__class__"],
  Gh.fV "__init__" "NoMake.__init__" s_NoMake___init__ ["__class__"],
  Gh.fV "__init__" "NoPlace.__init__" s_NoPlace___init__ ["__class__"],
  Gh.fV "__init__" "NoStretch.__init__" s_NoStretch___init__ ["__class__"]]
abbrev Al : Type := List Bool × List (List Gh.FnW)
def obs (K : PySem.W.Frag) : Al := ([(tests0 K).all id, (tests1 K).all id, (tests2 K).all id, (tests3 K).all id, (tests4 K).all id, (tests5 K).all id, (tests6 K).all id, (tests7 K).all id, (tests8 K).all id, (tests9 K).all id, (tests10 K).all id, (tests11 K).all id], [fns0 K, fns1 K, fns2 K])
def val : Al := ([true, true, true, true, true, true, true, true, true, true, true, true], [vals0, vals1, vals2])
def as__0 : List Addr := [0, 1, 2, 3, 4, 5, 6, 7, 8, 9, 10, 11, 12, 13, 14, 15, 16, 17, 18, 19, 20, 21, 22, 23, 24, 25, 26, 27, 28, 29]
def as__1 : List Addr := [36, 37, 38, 39, 42, 45, 50, 51, 52, 53, 54, 55, 56, 57, 58, 59, 60, 63, 66, 71, 72, 73, 74, 75, 76, 77, 78, 79, 80, 81]
def as__2 : List Addr := [84, 87, 92, 93, 94, 95, 96, 97, 98, 99, 100, 101, 102, 105, 108, 113, 114, 115, 116, 117, 118, 119, 120, 121, 122, 123, 126, 129, 134, 135]
def as__3 : List Addr := [136, 137, 138, 139, 140, 141, 142, 143, 144, 147, 150, 155, 156, 157, 158, 159, 160, 161, 162, 163, 164, 165, 168, 171, 176, 177, 178, 179, 180, 181]
def as__4 : List Addr := [182, 183, 184, 185, 186, 189, 192, 197, 198, 199, 200, 201, 202, 203, 204, 205, 206, 207, 210, 213, 218, 219, 220, 221, 222, 223, 224, 225, 226, 227]
def as__5 : List Addr := [228, 231, 232, 233, 234, 235, 236, 237, 238, 239, 240, 241, 242, 243, 244, 245, 246, 247, 248, 249, 250, 251, 252, 253, 254, 255, 256, 257, 258, 259]
def as__6 : List Addr := [260, 261, 269, 270, 271, 272, 273, 274, 275, 276, 277, 278, 279, 280, 281, 282, 283, 284, 285, 286, 287, 288, 289, 290, 291, 292, 293, 294, 295, 296]
def as__7 : List Addr := [297, 298, 299, 300, 301, 302, 303, 304, 305, 306, 307, 308, 309, 310, 311, 312, 313, 314, 315, 316, 317, 318, 319, 320, 321, 322, 323, 324, 325, 326]
def as__8 : List Addr := [327, 328, 329, 330, 331, 332, 333, 334, 335, 336, 337, 338, 339, 340, 341, 342, 343, 344, 345, 346, 347, 348, 349, 350, 351, 352, 353, 354, 355, 356]
def as__9 : List Addr := [357, 358, 359, 360, 361, 362, 363, 364, 365, 366, 367, 368, 369, 370, 371, 372, 373, 374, 375, 376, 377, 378, 381, 384, 389, 390, 391, 392, 393, 394]
def as__10 : List Addr := [395, 396, 397, 398, 399, 400, 401, 402, 403, 404, 405, 406, 407, 408, 409, 410, 411, 412, 413, 414, 415, 416, 417, 418, 419, 420, 421, 422, 423, 424]
def as__11 : List Addr := [425, 426, 427, 428, 429, 430, 431, 432, 433, 434, 435, 445, 446, 447, 448, 449, 450, 451, 452, 453, 454, 455, 456, 457, 458, 459, 460, 461, 462, 463]
def as__12 : List Addr := [464, 465, 466, 467, 468, 469, 470, 471, 472, 473, 474, 475, 476, 477, 478, 479, 480, 481, 482, 483, 484, 485, 486, 487, 488, 489, 490, 491, 492, 493]
def as__13 : List Addr := [494, 495, 496, 497, 498, 499, 500, 501, 502, 503, 504, 505, 506, 507, 508, 509, 510, 511, 512, 513, 514, 515, 516, 517, 518, 519, 520, 521, 522, 523]
def as__14 : List Addr := [524, 525, 526, 527, 528, 529, 530, 531, 532, 533, 534, 535, 536, 537, 538, 539, 540, 541, 542, 543, 544, 545, 546, 547, 548, 549, 550, 551, 552, 553]
def as__15 : List Addr := [554, 555, 556, 557, 558, 559, 560, 561, 562, 563, 564, 565, 566, 567, 568, 569, 570, 571, 572, 573, 574, 575, 576, 577, 578, 579, 580, 581, 582, 583]
def as__16 : List Addr := [584, 585, 586, 587, 588, 589, 590, 591, 592, 593, 594, 595, 596, 597, 598, 599, 600, 601, 602, 603, 604, 605, 606, 607, 608, 609, 610, 611, 612, 613]
def as__17 : List Addr := [614, 615, 616, 617, 618, 619, 620, 621, 622, 623, 624, 625, 626, 627, 628, 629, 630, 631, 632, 633, 634, 635, 636, 637, 638, 639, 640, 641, 642, 643]
def as__18 : List Addr := [644, 645, 646, 647, 648, 649, 650, 651, 652, 653, 654, 655, 656, 657, 658, 659, 660, 661, 662, 663, 664, 665, 666, 667, 668, 669, 670, 671, 672, 673]
def as__19 : List Addr := [674, 675, 676, 677, 678, 679, 680, 681, 682, 683, 686, 689, 694, 695, 696, 697, 698, 699, 700, 701, 702, 703, 704, 705, 706, 707, 708, 709, 710, 711]
def as__20 : List Addr := [712, 713, 714, 715, 716, 717, 718, 719, 720, 721, 722, 723, 724, 725, 726, 727, 728, 729, 730, 731, 732, 733, 734, 735, 736, 737, 738, 739, 740, 741]
def as__21 : List Addr := [742, 743, 744, 745, 746, 747, 748, 749, 750, 751, 752, 753, 754, 755, 756, 757, 758, 759, 760, 761, 762, 763, 764, 765, 766, 767, 768, 769, 770, 771]
def as__22 : List Addr := [774, 775, 776, 777, 778, 779, 780, 781, 782, 783, 784, 785, 786, 787, 788, 789, 790, 791, 792, 793, 794, 795, 796, 797, 798, 799, 800, 801, 802, 803]
def as__23 : List Addr := [804, 805, 806, 807, 808, 809, 810, 811, 812, 813, 814, 815, 816, 817, 818, 819, 820, 821, 822, 823, 824, 825, 826, 827, 828, 829, 830, 831, 832, 833]
def as__24 : List Addr := [834, 835, 836, 837, 838, 839, 840, 841, 842, 843, 844, 845, 846, 847, 848, 849, 850, 851, 852, 853, 854, 855, 856, 857, 858, 859, 860, 861, 862, 863]
def as__25 : List Addr := [864, 865, 866, 867, 868, 869, 870, 871, 872, 873, 874, 875, 876, 877, 878, 879, 880, 881, 882, 883, 884, 885, 886, 887, 888, 889, 890, 891, 892, 893]
def as__26 : List Addr := [894, 895, 896, 897, 898, 899, 900, 901, 902, 903, 904, 905, 906, 907, 908, 909, 910]
def as_ : List Addr := as__0 ++ as__1 ++ as__2 ++ as__3 ++ as__4 ++ as__5 ++ as__6 ++ as__7 ++ as__8 ++ as__9 ++ as__10 ++ as__11 ++ as__12 ++ as__13 ++ as__14 ++ as__15 ++ as__16 ++ as__17 ++ as__18 ++ as__19 ++ as__20 ++ as__21 ++ as__22 ++ as__23 ++ as__24 ++ as__25 ++ as__26
def names_0 : List Str := ["_wall", "found_by_halving", "MakesError", "NoRow", "NoWorth", "NoPlace", "NoStretch", "NoMake", "NoNumber", "NoChanges", "TooMany", "Alone", "MOST_WORTH", "MOST_PLACES", "MOST_CHANGES", "is_whole", "is_worth", "is_worths", "is_changes", "_is_change", "MOST_MAKES", "MakeTree", "LeapTree", "Rows", "Boxed", "_first_of_runs", "_law_cell_at", "_law_box", "_law_take", "_law_worth"]
def names_1 : List Str := ["_law_worths", "_law_model", "_law_written", "_law_one_of", "_law_last", "_law_put", "_law_come", "_law_runs", "_law_reads", "_law_caught", "_law_told", "_law_ask", "_law_bad_ask", "_law_asks_refused", "_law_let_go"]
def names : List Str := names_0 ++ names_1
abbrev R : PySem.W.OpenRow := PySem.W.OpenLaw.row PySem.Challenge.rw_makeskept_k46_boxed_makes_let_go
set_option maxHeartbeats 0 in
theorem run (w : World) : HandSHeadRun.RunEq R (PySem.W.view R.prog [53]) (Gh.hook as_ obs val) (Gh.ob as_ obs) 6563 names w := by
  intro os
  kernel_rfl
theorem all_c {w : World} {K : PySem.W.Frag} {h : Heap} {mg : Str → Option Value} {fa : Addr} (X : K.In h) (G : h.Ns mainGlobals mg) (hfa : mg "law" = some (.ref fa)) (c : obs K = val)
    : ∃ fd : FuncData, (∀ (s : Shared) (v : Value), BindsTo s fd ⟨[v], []⟩ [("_law_script", v)]) ∧ ∀ base : Heap, K.In base → base.Ns mainGlobals mg → Gd.FnG (PySem.Challenge.rw_makeskept_k46_boxed_makes_let_go).prog w K mg base CX0 25 fa fd ["_law_script"] (spLaw K) := by
  have h1 := congrArg (fun z : Al => z.1) c
  have h2 := congrArg (fun z : Al => z.2) c
  have ht0 : (tests0 K).all id = true := Gh.at_ h1 0 rfl rfl
  have ht1 : (tests1 K).all id = true := Gh.at_ h1 1 rfl rfl
  have ht2 : (tests2 K).all id = true := Gh.at_ h1 2 rfl rfl
  have ht3 : (tests3 K).all id = true := Gh.at_ h1 3 rfl rfl
  have ht4 : (tests4 K).all id = true := Gh.at_ h1 4 rfl rfl
  have ht5 : (tests5 K).all id = true := Gh.at_ h1 5 rfl rfl
  have ht6 : (tests6 K).all id = true := Gh.at_ h1 6 rfl rfl
  have ht7 : (tests7 K).all id = true := Gh.at_ h1 7 rfl rfl
  have ht8 : (tests8 K).all id = true := Gh.at_ h1 8 rfl rfl
  have ht9 : (tests9 K).all id = true := Gh.at_ h1 9 rfl rfl
  have ht10 : (tests10 K).all id = true := Gh.at_ h1 10 rfl rfl
  have ht11 : (tests11 K).all id = true := Gh.at_ h1 11 rfl rfl
  have hf0 : fns0 K = vals0 := Gh.at_ h2 0 rfl rfl
  have hf1 : fns1 K = vals1 := Gh.at_ h2 1 rfl rfl
  have hf2 : fns2 K = vals2 := Gh.at_ h2 2 rfl rfl
  obtain ⟨od0, an0, kV0, dc0, pm0, cd0, ct0, sl0, l0, c0⟩ := Gh.fun_of (Gh.fn_at hf0 0 rfl rfl) (Gh.test ht8 4 rfl)
  obtain ⟨od1, an1, kV1, dc1, pm1, cd1, ct1, sl1, l1, c1⟩ := Gh.fun_of (Gh.fn_at hf0 1 rfl rfl) (Gh.test ht8 5 rfl)
  obtain ⟨od2, an2, kV2, dc2, pm2, cd2, ct2, sl2, l2, c2⟩ := Gh.fun_of (Gh.fn_at hf0 2 rfl rfl) (Gh.test ht8 6 rfl)
  obtain ⟨od3, an3, kV3, dc3, pm3, cd3, ct3, sl3, l3, c3⟩ := Gh.fun_of (Gh.fn_at hf0 3 rfl rfl) (Gh.test ht8 7 rfl)
  obtain ⟨od4, an4, kV4, dc4, pm4, cd4, ct4, sl4, l4, c4⟩ := Gh.fun_of (Gh.fn_at hf0 4 rfl rfl) (Gh.test ht8 8 rfl)
  obtain ⟨od5, an5, kV5, dc5, pm5, cd5, ct5, sl5, l5, c5⟩ := Gh.fun_of (Gh.fn_at hf0 5 rfl rfl) (Gh.test ht8 9 rfl)
  obtain ⟨od6, an6, kV6, dc6, pm6, cd6, ct6, sl6, l6, c6⟩ := Gh.fun_of (Gh.fn_at hf0 6 rfl rfl) (Gh.test ht8 10 rfl)
  obtain ⟨od7, an7, kV7, dc7, pm7, cd7, ct7, sl7, l7, c7⟩ := Gh.fun_of (Gh.fn_at hf0 7 rfl rfl) (Gh.test ht8 11 rfl)
  obtain ⟨od8, an8, kV8, dc8, pm8, cd8, ct8, sl8, l8, c8⟩ := Gh.fun_of (Gh.fn_at hf0 8 rfl rfl) (Gh.test ht8 12 rfl)
  obtain ⟨od9, an9, kV9, dc9, pm9, cd9, ct9, sl9, l9, c9⟩ := Gh.fun_of (Gh.fn_at hf0 9 rfl rfl) (Gh.test ht8 13 rfl)
  obtain ⟨od10, an10, kV10, dc10, pm10, cd10, ct10, sl10, l10, c10⟩ := Gh.fun_of (Gh.fn_at hf0 10 rfl rfl) (Gh.test ht8 14 rfl)
  obtain ⟨od11, an11, kV11, dc11, pm11, cd11, ct11, sl11, l11, c11⟩ := Gh.fun_of (Gh.fn_at hf0 11 rfl rfl) (Gh.test ht8 15 rfl)
  obtain ⟨od12, an12, kV12, dc12, pm12, cd12, ct12, sl12, l12, c12⟩ := Gh.fun_of (Gh.fn_at hf0 12 rfl rfl) (Gh.test ht8 16 rfl)
  obtain ⟨od13, an13, kV13, dc13, pm13, cd13, ct13, sl13, l13, c13⟩ := Gh.fun_of (Gh.fn_at hf0 13 rfl rfl) (Gh.test ht8 17 rfl)
  obtain ⟨od14, an14, kV14, dc14, pm14, cd14, ct14, sl14, l14, c14⟩ := Gh.fun_of (Gh.fn_at hf0 14 rfl rfl) (Gh.test ht8 18 rfl)
  obtain ⟨od15, an15, kV15, dc15, pm15, cd15, ct15, sl15, l15, c15⟩ := Gh.fun_of (Gh.fn_at hf0 15 rfl rfl) (Gh.test ht8 19 rfl)
  obtain ⟨od16, an16, kV16, dc16, pm16, cd16, ct16, sl16, l16, c16⟩ := Gh.fun_of (Gh.fn_at hf0 16 rfl rfl) (Gh.test ht8 20 rfl)
  obtain ⟨od17, an17, kV17, dc17, pm17, cd17, ct17, sl17, l17, c17⟩ := Gh.fun_of (Gh.fn_at hf0 17 rfl rfl) (Gh.test ht8 21 rfl)
  obtain ⟨od18, an18, kV18, dc18, pm18, cd18, ct18, sl18, l18, c18⟩ := Gh.fun_of (Gh.fn_at hf0 18 rfl rfl) (Gh.test ht8 22 rfl)
  obtain ⟨od19, an19, kV19, dc19, pm19, cd19, ct19, sl19, l19, c19⟩ := Gh.fun_of (Gh.fn_at hf0 19 rfl rfl) (Gh.test ht8 23 rfl)
  obtain ⟨od20, an20, kV20, dc20, pm20, cd20, ct20, sl20, l20, c20⟩ := Gh.fun_of (Gh.fn_at hf0 20 rfl rfl) (Gh.test ht8 24 rfl)
  obtain ⟨od21, an21, kV21, dc21, pm21, cd21, ct21, sl21, l21, c21⟩ := Gh.fun_of (Gh.fn_at hf0 21 rfl rfl) (Gh.test ht9 0 rfl)
  obtain ⟨od22, an22, kV22, dc22, pm22, cd22, ct22, sl22, l22, c22⟩ := Gh.fun_of (Gh.fn_at hf0 22 rfl rfl) (Gh.test ht9 1 rfl)
  obtain ⟨od23, an23, kV23, dc23, pm23, cd23, ct23, sl23, l23, c23⟩ := Gh.fun_of (Gh.fn_at hf0 23 rfl rfl) (Gh.test ht9 2 rfl)
  obtain ⟨od24, an24, kV24, dc24, pm24, cd24, ct24, sl24, l24, c24⟩ := Gh.fun_of (Gh.fn_at hf0 24 rfl rfl) (Gh.test ht9 3 rfl)
  obtain ⟨od_CM_many, an_CM_many, kV_CM_many, dc_CM_many, pm_CM_many, cd_CM_many, ct_CM_many, sl_CM_many, l_CM_many, c_CM_many⟩ := Gh.fun_of (Gh.fn_at hf1 0 rfl rfl) (Gh.test ht9 4 rfl)
  obtain ⟨od_CM_need_make, an_CM_need_make, kV_CM_need_make, dc_CM_need_make, pm_CM_need_make, cd_CM_need_make, ct_CM_need_make, sl_CM_need_make, l_CM_need_make, c_CM_need_make⟩ := Gh.fun_of (Gh.fn_at hf1 1 rfl rfl) (Gh.test ht9 5 rfl)
  obtain ⟨od_CM_own, an_CM_own, kV_CM_own, dc_CM_own, pm_CM_own, cd_CM_own, ct_CM_own, sl_CM_own, l_CM_own, c_CM_own⟩ := Gh.fun_of (Gh.fn_at hf1 2 rfl rfl) (Gh.test ht9 6 rfl)
  obtain ⟨od_CM_line, an_CM_line, kV_CM_line, dc_CM_line, pm_CM_line, cd_CM_line, ct_CM_line, sl_CM_line, l_CM_line, c_CM_line⟩ := Gh.fun_of (Gh.fn_at hf1 3 rfl rfl) (Gh.test ht9 7 rfl)
  obtain ⟨od_CM_grow, an_CM_grow, kV_CM_grow, dc_CM_grow, pm_CM_grow, cd_CM_grow, ct_CM_grow, sl_CM_grow, l_CM_grow, c_CM_grow⟩ := Gh.fun_of (Gh.fn_at hf1 4 rfl rfl) (Gh.test ht9 8 rfl)
  obtain ⟨od_CM_init, an_CM_init, kV_CM_init, dc_CM_init, pm_CM_init, cd_CM_init, ct_CM_init, sl_CM_init, l_CM_init, c_CM_init⟩ := Gh.fun_of (Gh.fn_at hf1 5 rfl rfl) (Gh.test ht9 9 rfl)
  obtain ⟨od_CL_leaps_through, an_CL_leaps_through, kV_CL_leaps_through, dc_CL_leaps_through, pm_CL_leaps_through, cd_CL_leaps_through, ct_CL_leaps_through, sl_CL_leaps_through, l_CL_leaps_through, c_CL_leaps_through⟩ := Gh.fun_of (Gh.fn_at hf1 6 rfl rfl) (Gh.test ht9 10 rfl)
  obtain ⟨xc_CL, xd_CL, ic_CL, xs_CL, x_CL⟩ := Gh.cls_of (Gh.test ht9 11 rfl)
  obtain ⟨od_CL_grow, an_CL_grow, dc_CL_grow, pm_CL_grow, ct_CL_grow, sl_CL_grow, co_CL_grow, cc_CL_grow, ccl_CL_grow, cv_CL_grow, cdd_CL_grow, cld_CL_grow, vs_CL_grow, ccs_CL_grow, csl_CL_grow, file_CL_grow, tf_CL_grow, l_CL_grow, c_CL_grow, dl_CL_grow, fv_CL_grow, fl_CL_grow, zc_CL_grow⟩ := Gh.sup_of (Gh.fn_at hf1 7 rfl rfl) (Gh.test ht9 12 rfl)
  obtain ⟨od_CL_init, an_CL_init, dc_CL_init, pm_CL_init, ct_CL_init, sl_CL_init, co_CL_init, cc_CL_init, ccl_CL_init, cv_CL_init, cdd_CL_init, cld_CL_init, vs_CL_init, ccs_CL_init, csl_CL_init, file_CL_init, tf_CL_init, l_CL_init, c_CL_init, dl_CL_init, fv_CL_init, fl_CL_init, zc_CL_init⟩ := Gh.sup_of (Gh.fn_at hf1 8 rfl rfl) (Gh.test ht9 13 rfl)
  obtain ⟨od_C_init, an_C_init, kV_C_init, dc_C_init, pm_C_init, cd_C_init, ct_C_init, sl_C_init, l_C_init, c_C_init⟩ := Gh.fun_of (Gh.fn_at hf1 9 rfl rfl) (Gh.test ht9 14 rfl)
  obtain ⟨od_C_size, an_C_size, kV_C_size, dc_C_size, pm_C_size, cd_C_size, ct_C_size, sl_C_size, l_C_size, c_C_size⟩ := Gh.fun_of (Gh.fn_at hf1 10 rfl rfl) (Gh.test ht9 15 rfl)
  obtain ⟨od_C_many, an_C_many, kV_C_many, dc_C_many, pm_C_many, cd_C_many, ct_C_many, sl_C_many, l_C_many, c_C_many⟩ := Gh.fun_of (Gh.fn_at hf1 11 rfl rfl) (Gh.test ht9 16 rfl)
  obtain ⟨od_C_makes, an_C_makes, kV_C_makes, dc_C_makes, pm_C_makes, cd_C_makes, ct_C_makes, sl_C_makes, l_C_makes, c_C_makes⟩ := Gh.fun_of (Gh.fn_at hf1 12 rfl rfl) (Gh.test ht9 17 rfl)
  obtain ⟨od_C_at, an_C_at, kV_C_at, dc_C_at, pm_C_at, cd_C_at, ct_C_at, sl_C_at, l_C_at, c_C_at⟩ := Gh.fun_of (Gh.fn_at hf1 13 rfl rfl) (Gh.test ht9 18 rfl)
  obtain ⟨od_C_row, an_C_row, kV_C_row, dc_C_row, pm_C_row, cd_C_row, ct_C_row, sl_C_row, l_C_row, c_C_row⟩ := Gh.fun_of (Gh.fn_at hf1 14 rfl rfl) (Gh.test ht9 19 rfl)
  obtain ⟨od_C_stretch, an_C_stretch, kV_C_stretch, dc_C_stretch, pm_C_stretch, cd_C_stretch, ct_C_stretch, sl_C_stretch, l_C_stretch, c_C_stretch⟩ := Gh.fun_of (Gh.fn_at hf1 15 rfl rfl) (Gh.test ht9 20 rfl)
  obtain ⟨od_C_writer, an_C_writer, kV_C_writer, dc_C_writer, pm_C_writer, cd_C_writer, ct_C_writer, sl_C_writer, l_C_writer, c_C_writer⟩ := Gh.fun_of (Gh.fn_at hf1 16 rfl rfl) (Gh.test ht9 21 rfl)
  obtain ⟨od_C_place_of, an_C_place_of, kV_C_place_of, dc_C_place_of, pm_C_place_of, cd_C_place_of, ct_C_place_of, sl_C_place_of, l_C_place_of, c_C_place_of⟩ := Gh.fun_of (Gh.fn_at hf1 17 rfl rfl) (Gh.test ht9 22 rfl)
  obtain ⟨od_C_worths_in, an_C_worths_in, kV_C_worths_in, dc_C_worths_in, pm_C_worths_in, cd_C_worths_in, ct_C_worths_in, sl_C_worths_in, l_C_worths_in, c_C_worths_in⟩ := Gh.fun_of (Gh.fn_at hf1 18 rfl rfl) (Gh.test ht9 23 rfl)
  obtain ⟨od_C_add_steps, an_C_add_steps, kV_C_add_steps, dc_C_add_steps, pm_C_add_steps, cd_C_add_steps, ct_C_add_steps, sl_C_add_steps, l_C_add_steps, c_C_add_steps⟩ := Gh.fun_of (Gh.fn_at hf1 19 rfl rfl) (Gh.test ht9 24 rfl)
  obtain ⟨od_C_need_make, an_C_need_make, kV_C_need_make, dc_C_need_make, pm_C_need_make, cd_C_need_make, ct_C_need_make, sl_C_need_make, l_C_need_make, c_C_need_make⟩ := Gh.fun_of (Gh.fn_at hf1 20 rfl rfl) (Gh.test ht10 0 rfl)
  obtain ⟨od_C_need_place, an_C_need_place, kV_C_need_place, dc_C_need_place, pm_C_need_place, cd_C_need_place, ct_C_need_place, sl_C_need_place, l_C_need_place, c_C_need_place⟩ := Gh.fun_of (Gh.fn_at hf1 21 rfl rfl) (Gh.test ht10 1 rfl)
  obtain ⟨od_C_need_stretch, an_C_need_stretch, kV_C_need_stretch, dc_C_need_stretch, pm_C_need_stretch, cd_C_need_stretch, ct_C_need_stretch, sl_C_need_stretch, l_C_need_stretch, c_C_need_stretch⟩ := Gh.fun_of (Gh.fn_at hf1 22 rfl rfl) (Gh.test ht10 2 rfl)
  obtain ⟨od_C_row_need_there, an_C_row_need_there, kV_C_row_need_there, dc_C_row_need_there, pm_C_row_need_there, cd_C_row_need_there, ct_C_row_need_there, sl_C_row_need_there, l_C_row_need_there, c_C_row_need_there⟩ := Gh.fun_of (Gh.fn_at hf1 23 rfl rfl) (Gh.test ht10 3 rfl)
  obtain ⟨od_C_up_to_writer, an_C_up_to_writer, kV_C_up_to_writer, dc_C_up_to_writer, pm_C_up_to_writer, cd_C_up_to_writer, ct_C_up_to_writer, sl_C_up_to_writer, l_C_up_to_writer, c_C_up_to_writer⟩ := Gh.fun_of (Gh.fn_at hf1 24 rfl rfl) (Gh.test ht10 4 rfl)
  obtain ⟨od_C_row_put, an_C_row_put, kV_C_row_put, dc_C_row_put, pm_C_row_put, cd_C_row_put, ct_C_row_put, sl_C_row_put, l_C_row_put, c_C_row_put⟩ := Gh.fun_of (Gh.fn_at hf2 0 rfl rfl) (Gh.test ht10 5 rfl)
  obtain ⟨od_C_row_need_room_for, an_C_row_need_room_for, kV_C_row_need_room_for, dc_C_row_need_room_for, pm_C_row_need_room_for, cd_C_row_need_room_for, ct_C_row_need_room_for, sl_C_row_need_room_for, l_C_row_need_room_for, c_C_row_need_room_for⟩ := Gh.fun_of (Gh.fn_at hf2 1 rfl rfl) (Gh.test ht10 6 rfl)
  obtain ⟨od_C_row_writers, an_C_row_writers, kV_C_row_writers, dc_C_row_writers, pm_C_row_writers, cd_C_row_writers, ct_C_row_writers, sl_C_row_writers, l_C_row_writers, c_C_row_writers⟩ := Gh.fun_of (Gh.fn_at hf2 2 rfl rfl) (Gh.test ht10 7 rfl)
  obtain ⟨od_C_needed_no_more, an_C_needed_no_more, kV_C_needed_no_more, dc_C_needed_no_more, pm_C_needed_no_more, cd_C_needed_no_more, ct_C_needed_no_more, sl_C_needed_no_more, l_C_needed_no_more, c_C_needed_no_more⟩ := Gh.fun_of (Gh.fn_at hf2 3 rfl rfl) (Gh.test ht10 8 rfl)
  obtain ⟨od_C_put, an_C_put, kV_C_put, dc_C_put, pm_C_put, cd_C_put, ct_C_put, sl_C_put, l_C_put, c_C_put⟩ := Gh.fun_of (Gh.fn_at hf2 4 rfl rfl) (Gh.test ht10 9 rfl)
  obtain ⟨od_C_need_new, an_C_need_new, kV_C_need_new, dc_C_need_new, pm_C_need_new, cd_C_need_new, ct_C_need_new, sl_C_need_new, l_C_need_new, c_C_need_new⟩ := Gh.fun_of (Gh.fn_at hf2 5 rfl rfl) (Gh.test ht10 10 rfl)
  obtain ⟨od_C_begin, an_C_begin, kV_C_begin, dc_C_begin, pm_C_begin, cd_C_begin, ct_C_begin, sl_C_begin, l_C_begin, c_C_begin⟩ := Gh.fun_of (Gh.fn_at hf2 6 rfl rfl) (Gh.test ht10 11 rfl)
  obtain ⟨od_C_store, an_C_store, kV_C_store, dc_C_store, pm_C_store, cd_C_store, ct_C_store, sl_C_store, l_C_store, c_C_store⟩ := Gh.fun_of (Gh.fn_at hf2 7 rfl rfl) (Gh.test ht10 12 rfl)
  obtain ⟨od_C_looked, an_C_looked, kV_C_looked, dc_C_looked, pm_C_looked, cd_C_looked, ct_C_looked, sl_C_looked, l_C_looked, c_C_looked⟩ := Gh.fun_of (Gh.fn_at hf2 8 rfl rfl) (Gh.test ht10 13 rfl)
  obtain ⟨od_C_freed, an_C_freed, kV_C_freed, dc_C_freed, pm_C_freed, cd_C_freed, ct_C_freed, sl_C_freed, l_C_freed, c_C_freed⟩ := Gh.fun_of (Gh.fn_at hf2 9 rfl rfl) (Gh.test ht10 14 rfl)
  obtain ⟨od_C_box, an_C_box, kV_C_box, dc_C_box, pm_C_box, cd_C_box, ct_C_box, sl_C_box, l_C_box, c_C_box⟩ := Gh.fun_of (Gh.fn_at hf2 10 rfl rfl) (Gh.test ht10 15 rfl)
  obtain ⟨od_C_room, an_C_room, kV_C_room, dc_C_room, pm_C_room, cd_C_room, ct_C_room, sl_C_room, l_C_room, c_C_room⟩ := Gh.fun_of (Gh.fn_at hf2 11 rfl rfl) (Gh.test ht10 16 rfl)
  obtain ⟨od_C_in_order, an_C_in_order, kV_C_in_order, dc_C_in_order, pm_C_in_order, cd_C_in_order, ct_C_in_order, sl_C_in_order, l_C_in_order, c_C_in_order⟩ := Gh.fun_of (Gh.fn_at hf2 12 rfl rfl) (Gh.test ht10 17 rfl)
  obtain ⟨od_C_found, an_C_found, kV_C_found, dc_C_found, pm_C_found, cd_C_found, ct_C_found, sl_C_found, l_C_found, c_C_found⟩ := Gh.fun_of (Gh.fn_at hf2 13 rfl rfl) (Gh.test ht10 18 rfl)
  obtain ⟨od_C_turn_of_each, an_C_turn_of_each, kV_C_turn_of_each, dc_C_turn_of_each, pm_C_turn_of_each, cd_C_turn_of_each, ct_C_turn_of_each, sl_C_turn_of_each, l_C_turn_of_each, c_C_turn_of_each⟩ := Gh.fun_of (Gh.fn_at hf2 14 rfl rfl) (Gh.test ht10 19 rfl)
  obtain ⟨od_CR_let_go, an_CR_let_go, kV_CR_let_go, dc_CR_let_go, pm_CR_let_go, cd_CR_let_go, ct_CR_let_go, sl_CR_let_go, l_CR_let_go, c_CR_let_go⟩ := Gh.fun_of (Gh.fn_at hf2 15 rfl rfl) (Gh.test ht10 20 rfl)
  obtain ⟨xc_C, xd_C, ic_C, xs_C, x_C⟩ := Gh.cls_of (Gh.test ht10 21 rfl)
  obtain ⟨od_C_let_go, an_C_let_go, dc_C_let_go, pm_C_let_go, ct_C_let_go, sl_C_let_go, co_C_let_go, cc_C_let_go, ccl_C_let_go, cv_C_let_go, cdd_C_let_go, cld_C_let_go, vs_C_let_go, ccs_C_let_go, csl_C_let_go, file_C_let_go, tf_C_let_go, l_C_let_go, c_C_let_go, dl_C_let_go, fv_C_let_go, fl_C_let_go, zc_C_let_go⟩ := Gh.sup_of (Gh.fn_at hf2 16 rfl rfl) (Gh.test ht10 22 rfl)
  obtain ⟨odA, anA, dcA, pmA, ctA, slA, cdaA, ccA, cclA, clA, cddA, cldA, vsA, ccsA, cslA, fileA, tfA, llA, ciA, dlA, fvA, flA, zcA⟩ := Gh.sup_of (Gh.fn_at hf2 17 rfl rfl) (Gh.test ht10 23 rfl)
  obtain ⟨nmA, qA, NA, bsA, snA, subA, abA, colA, ddA, m0A, m1A, m2A, m3A, m5A, xA⟩ := Gh.exc_of (Gh.test ht10 24 rfl)
  obtain ⟨odN, anN, dcN, pmN, ctN, slN, cdaN, ccN, cclN, clN, cddN, cldN, vsN, ccsN, cslN, fileN, tfN, llN, ciN, dlN, fvN, flN, zcN⟩ := Gh.sup_of (Gh.fn_at hf2 18 rfl rfl) (Gh.test ht11 0 rfl)
  obtain ⟨nmN, qN, NN, bsN, snN, subN, abN, colN, ddN, m0N, m1N, m2N, m3N, m5N, xN⟩ := Gh.exc_of (Gh.test ht11 1 rfl)
  obtain ⟨odP, anP, dcP, pmP, ctP, slP, cdaP, ccP, cclP, clP, cddP, cldP, vsP, ccsP, cslP, fileP, tfP, llP, ciP, dlP, fvP, flP, zcP⟩ := Gh.sup_of (Gh.fn_at hf2 19 rfl rfl) (Gh.test ht11 2 rfl)
  obtain ⟨nmP, qP, NP, bsP, snP, subP, abP, colP, ddP, m0P, m1P, m2P, m3P, m5P, xP⟩ := Gh.exc_of (Gh.test ht11 3 rfl)
  obtain ⟨odS, anS, dcS, pmS, ctS, slS, cdaS, ccS, cclS, clS, cddS, cldS, vsS, ccsS, cslS, fileS, tfS, llS, ciS, dlS, fvS, flS, zcS⟩ := Gh.sup_of (Gh.fn_at hf2 20 rfl rfl) (Gh.test ht11 4 rfl)
  obtain ⟨nmS, qS, NS, bsS, snS, subS, abS, colS, ddS, m0S, m1S, m2S, m3S, m5S, xS⟩ := Gh.exc_of (Gh.test ht11 5 rfl)
  exact all_mk (l := PySem.Challenge.rw_makeskept_k46_boxed_makes_let_go) X G hfa
    (He.eqO_ok (Gh.test ht0 0 rfl))
    l0
    c0
    (He.eqO_ok (Gh.test ht0 1 rfl))
    l1
    c1
    (He.eqO_ok (Gh.test ht0 2 rfl))
    l2
    c2
    (He.eqO_ok (Gh.test ht0 3 rfl))
    l3
    c3
    (He.eqO_ok (Gh.test ht0 4 rfl))
    l4
    c4
    (He.eqO_ok (Gh.test ht0 5 rfl))
    l5
    c5
    (He.eqO_ok (Gh.test ht0 6 rfl))
    l6
    c6
    (He.eqO_ok (Gh.test ht0 7 rfl))
    l7
    c7
    (He.eqO_ok (Gh.test ht0 8 rfl))
    l8
    c8
    (He.eqO_ok (Gh.test ht0 9 rfl))
    l9
    c9
    (He.eqO_ok (Gh.test ht0 10 rfl))
    l10
    c10
    (He.eqO_ok (Gh.test ht0 11 rfl))
    l11
    c11
    (He.eqO_ok (Gh.test ht0 12 rfl))
    l12
    c12
    (He.eqO_ok (Gh.test ht0 13 rfl))
    l13
    c13
    (He.eqO_ok (Gh.test ht0 14 rfl))
    l14
    c14
    (He.eqO_ok (Gh.test ht0 15 rfl))
    l15
    c15
    (He.eqO_ok (Gh.test ht0 16 rfl))
    l16
    c16
    (He.eqO_ok (Gh.test ht0 17 rfl))
    l17
    c17
    (He.eqO_ok (Gh.test ht0 18 rfl))
    l18
    c18
    (He.eqO_ok (Gh.test ht0 19 rfl))
    l19
    c19
    (He.eqO_ok (Gh.test ht0 20 rfl))
    l20
    c20
    (He.eqO_ok (Gh.test ht0 21 rfl))
    l21
    c21
    (He.eqO_ok (Gh.test ht0 22 rfl))
    l22
    c22
    (He.eqO_ok (Gh.test ht0 23 rfl))
    l23
    c23
    (He.eqO_ok (Gh.test ht0 24 rfl))
    l24
    c24
    (He.eqO_ok (Gh.test ht1 0 rfl))
    (He.eqO_ok (Gh.test ht1 1 rfl))
    (He.eqO_ok (Gh.test ht1 2 rfl))
    (He.eqO_ok (Gh.test ht1 3 rfl))
    (He.eqO_ok (Gh.test ht1 4 rfl))
    (He.eqO_ok (Gh.test ht1 5 rfl))
    (He.eqO_ok (Gh.test ht1 6 rfl))
    (He.eqO_ok (Gh.test ht1 7 rfl))
    (He.eqO_ok (Gh.test ht1 8 rfl))
    (He.eqO_ok (Gh.test ht1 9 rfl))
    (He.eqO_ok (Gh.test ht1 10 rfl))
    (He.eqO_ok (Gh.test ht1 11 rfl))
    (He.eqO_ok (Gh.test ht1 12 rfl))
    (He.eqO_ok (Gh.test ht1 13 rfl))
    (He.eqO_ok (Gh.test ht1 14 rfl))
    (He.eqO_ok (Gh.test ht1 15 rfl))
    (He.eqO_ok (Gh.test ht1 16 rfl))
    (He.eqO_ok (Gh.test ht1 17 rfl))
    (He.eqO_ok (Gh.test ht1 18 rfl))
    (He.eqO_ok (Gh.test ht1 19 rfl))
    (He.eqO_ok (Gh.test ht1 20 rfl))
    (He.eqO_ok (Gh.test ht1 21 rfl))
    (Gh.test ht1 22 rfl)
    (Gh.test ht1 23 rfl)
    (Gh.test ht1 24 rfl)
    (He.eqO_ok (Gh.test ht2 0 rfl))
    (He.eqO_ok (Gh.test ht2 1 rfl))
    (He.eqO_ok (Gh.test ht2 2 rfl))
    (He.eqO_ok (Gh.test ht2 3 rfl))
    (He.eqO_ok (Gh.test ht2 4 rfl))
    (Gh.test ht2 5 rfl)
    (Gh.test ht2 6 rfl)
    (He.eqO_ok (Gh.test ht2 7 rfl))
    l_CM_many
    c_CM_many
    (He.eqO_ok (Gh.test ht2 8 rfl))
    l_CM_need_make
    c_CM_need_make
    (He.eqO_ok (Gh.test ht2 9 rfl))
    l_CM_own
    c_CM_own
    (He.eqO_ok (Gh.test ht2 10 rfl))
    l_CM_line
    c_CM_line
    (He.eqO_ok (Gh.test ht2 11 rfl))
    l_CM_grow
    c_CM_grow
    (He.eqO_ok (Gh.test ht2 12 rfl))
    l_CM_init
    c_CM_init
    (He.eqO_ok (Gh.test ht2 13 rfl))
    l_CL_leaps_through
    c_CL_leaps_through
    (He.eqO_ok (Gh.test ht2 14 rfl))
    (He.eqO_ok (Gh.test ht2 15 rfl))
    (by first | rfl | decide +kernel)
    x_CL
    (of_decide_eq_true (Gh.test ht2 16 rfl))
    (He.eqO_ok (Gh.test ht2 17 rfl))
    l_CL_grow
    c_CL_grow
    dl_CL_grow
    fv_CL_grow
    fl_CL_grow
    zc_CL_grow
    (He.eqO_ok (Gh.test ht2 18 rfl))
    (He.eqO_ok (Gh.test ht2 19 rfl))
    l_CL_init
    c_CL_init
    dl_CL_init
    fv_CL_init
    fl_CL_init
    zc_CL_init
    (He.eqO_ok (Gh.test ht2 20 rfl))
    (He.eqO_ok (Gh.test ht2 21 rfl))
    (Gh.test ht2 22 rfl)
    (Gh.test ht2 23 rfl)
    (Gh.test ht2 24 rfl)
    (He.eqO_ok (Gh.test ht3 0 rfl))
    (He.eqO_ok (Gh.test ht3 1 rfl))
    (He.eqO_ok (Gh.test ht3 2 rfl))
    (He.eqO_ok (Gh.test ht3 3 rfl))
    (He.eqO_ok (Gh.test ht3 4 rfl))
    (He.eqO_ok (Gh.test ht3 5 rfl))
    (He.eqO_ok (Gh.test ht3 6 rfl))
    (He.eqO_ok (Gh.test ht3 7 rfl))
    (Gh.test ht3 8 rfl)
    (Gh.test ht3 9 rfl)
    (He.eqO_ok (Gh.test ht3 10 rfl))
    l_C_init
    c_C_init
    (He.eqO_ok (Gh.test ht3 11 rfl))
    l_C_size
    c_C_size
    (He.eqO_ok (Gh.test ht3 12 rfl))
    l_C_many
    c_C_many
    (He.eqO_ok (Gh.test ht3 13 rfl))
    l_C_makes
    c_C_makes
    (He.eqO_ok (Gh.test ht3 14 rfl))
    l_C_at
    c_C_at
    (He.eqO_ok (Gh.test ht3 15 rfl))
    l_C_row
    c_C_row
    (He.eqO_ok (Gh.test ht3 16 rfl))
    l_C_stretch
    c_C_stretch
    (He.eqO_ok (Gh.test ht3 17 rfl))
    l_C_writer
    c_C_writer
    (He.eqO_ok (Gh.test ht3 18 rfl))
    l_C_place_of
    c_C_place_of
    (He.eqO_ok (Gh.test ht3 19 rfl))
    l_C_worths_in
    c_C_worths_in
    (He.eqO_ok (Gh.test ht3 20 rfl))
    l_C_add_steps
    c_C_add_steps
    (He.eqO_ok (Gh.test ht3 21 rfl))
    l_C_need_make
    c_C_need_make
    (He.eqO_ok (Gh.test ht3 22 rfl))
    l_C_need_place
    c_C_need_place
    (He.eqO_ok (Gh.test ht3 23 rfl))
    l_C_need_stretch
    c_C_need_stretch
    (He.eqO_ok (Gh.test ht3 24 rfl))
    l_C_row_need_there
    c_C_row_need_there
    (He.eqO_ok (Gh.test ht4 0 rfl))
    l_C_up_to_writer
    c_C_up_to_writer
    (He.eqO_ok (Gh.test ht4 1 rfl))
    l_C_row_put
    c_C_row_put
    (He.eqO_ok (Gh.test ht4 2 rfl))
    l_C_row_need_room_for
    c_C_row_need_room_for
    (He.eqO_ok (Gh.test ht4 3 rfl))
    l_C_row_writers
    c_C_row_writers
    (He.eqO_ok (Gh.test ht4 4 rfl))
    l_C_needed_no_more
    c_C_needed_no_more
    (He.eqO_ok (Gh.test ht4 5 rfl))
    l_C_put
    c_C_put
    (He.eqO_ok (Gh.test ht4 6 rfl))
    l_C_need_new
    c_C_need_new
    (He.eqO_ok (Gh.test ht4 7 rfl))
    l_C_begin
    c_C_begin
    (He.eqO_ok (Gh.test ht4 8 rfl))
    l_C_store
    c_C_store
    (He.eqO_ok (Gh.test ht4 9 rfl))
    l_C_looked
    c_C_looked
    (He.eqO_ok (Gh.test ht4 10 rfl))
    l_C_freed
    c_C_freed
    (He.eqO_ok (Gh.test ht4 11 rfl))
    l_C_box
    c_C_box
    (He.eqO_ok (Gh.test ht4 12 rfl))
    l_C_room
    c_C_room
    (He.eqO_ok (Gh.test ht4 13 rfl))
    l_C_in_order
    c_C_in_order
    (He.eqO_ok (Gh.test ht4 14 rfl))
    l_C_found
    c_C_found
    (He.eqO_ok (Gh.test ht4 15 rfl))
    l_C_turn_of_each
    c_C_turn_of_each
    (He.eqO_ok (Gh.test ht4 16 rfl))
    (He.eqO_ok (Gh.test ht4 17 rfl))
    l_CR_let_go
    c_CR_let_go
    x_C
    (of_decide_eq_true (Gh.test ht4 18 rfl))
    (He.eqO_ok (Gh.test ht4 19 rfl))
    l_C_let_go
    c_C_let_go
    dl_C_let_go
    fv_C_let_go
    fl_C_let_go
    zc_C_let_go
    (He.eqO_ok (Gh.test ht4 20 rfl))
    (He.eqO_ok (Gh.test ht4 21 rfl))
    (Gh.test ht4 22 rfl)
    (of_decide_eq_true (Gh.test ht4 23 rfl))
    (of_decide_eq_true (Gh.test ht4 24 rfl))
    (He.eqO_ok (Gh.test ht5 0 rfl))
    xA
    (He.eqO_ok (Gh.test ht5 1 rfl))
    (He.eqO_ok (Gh.test ht5 2 rfl))
    (He.eqO_ok (Gh.test ht5 3 rfl))
    (He.eqO_ok (Gh.test ht5 4 rfl))
    (He.eqO_ok (Gh.test ht5 5 rfl))
    (Gh.test ht5 6 rfl)
    (of_decide_eq_true (Gh.test ht5 7 rfl))
    (of_decide_eq_true (Gh.test ht5 8 rfl))
    (of_decide_eq_true (Gh.test ht5 9 rfl))
    (Gh.test ht5 10 rfl)
    (of_decide_eq_true (Gh.test ht5 11 rfl))
    (He.eqO_ok (Gh.test ht5 12 rfl))
    llA
    ciA
    dlA
    fvA
    flA
    zcA
    (by rfl)
    (He.eqO_ok (Gh.test ht5 13 rfl))
    (He.eqO_ok (Gh.test ht5 14 rfl))
    (of_decide_eq_true (Gh.test ht5 15 rfl))
    (of_decide_eq_true (Gh.test ht5 16 rfl))
    (of_decide_eq_true (Gh.test ht5 17 rfl))
    (He.eqO_ok (Gh.test ht5 18 rfl))
    xN
    (He.eqO_ok (Gh.test ht5 19 rfl))
    (He.eqO_ok (Gh.test ht5 20 rfl))
    (He.eqO_ok (Gh.test ht5 21 rfl))
    (He.eqO_ok (Gh.test ht5 22 rfl))
    (He.eqO_ok (Gh.test ht5 23 rfl))
    (Gh.test ht5 24 rfl)
    (of_decide_eq_true (Gh.test ht6 0 rfl))
    (of_decide_eq_true (Gh.test ht6 1 rfl))
    (of_decide_eq_true (Gh.test ht6 2 rfl))
    (Gh.test ht6 3 rfl)
    (of_decide_eq_true (Gh.test ht6 4 rfl))
    (He.eqO_ok (Gh.test ht6 5 rfl))
    llN
    ciN
    dlN
    fvN
    flN
    zcN
    (by rfl)
    (He.eqO_ok (Gh.test ht6 6 rfl))
    (He.eqO_ok (Gh.test ht6 7 rfl))
    (of_decide_eq_true (Gh.test ht6 8 rfl))
    (of_decide_eq_true (Gh.test ht6 9 rfl))
    (of_decide_eq_true (Gh.test ht6 10 rfl))
    (He.eqO_ok (Gh.test ht6 11 rfl))
    xP
    (He.eqO_ok (Gh.test ht6 12 rfl))
    (He.eqO_ok (Gh.test ht6 13 rfl))
    (He.eqO_ok (Gh.test ht6 14 rfl))
    (He.eqO_ok (Gh.test ht6 15 rfl))
    (He.eqO_ok (Gh.test ht6 16 rfl))
    (Gh.test ht6 17 rfl)
    (of_decide_eq_true (Gh.test ht6 18 rfl))
    (of_decide_eq_true (Gh.test ht6 19 rfl))
    (of_decide_eq_true (Gh.test ht6 20 rfl))
    (Gh.test ht6 21 rfl)
    (of_decide_eq_true (Gh.test ht6 22 rfl))
    (He.eqO_ok (Gh.test ht6 23 rfl))
    llP
    ciP
    dlP
    fvP
    flP
    zcP
    (by rfl)
    (He.eqO_ok (Gh.test ht6 24 rfl))
    (He.eqO_ok (Gh.test ht7 0 rfl))
    (of_decide_eq_true (Gh.test ht7 1 rfl))
    (of_decide_eq_true (Gh.test ht7 2 rfl))
    (of_decide_eq_true (Gh.test ht7 3 rfl))
    (He.eqO_ok (Gh.test ht7 4 rfl))
    xS
    (He.eqO_ok (Gh.test ht7 5 rfl))
    (He.eqO_ok (Gh.test ht7 6 rfl))
    (He.eqO_ok (Gh.test ht7 7 rfl))
    (He.eqO_ok (Gh.test ht7 8 rfl))
    (He.eqO_ok (Gh.test ht7 9 rfl))
    (Gh.test ht7 10 rfl)
    (of_decide_eq_true (Gh.test ht7 11 rfl))
    (of_decide_eq_true (Gh.test ht7 12 rfl))
    (of_decide_eq_true (Gh.test ht7 13 rfl))
    (Gh.test ht7 14 rfl)
    (of_decide_eq_true (Gh.test ht7 15 rfl))
    (He.eqO_ok (Gh.test ht7 16 rfl))
    llS
    ciS
    dlS
    fvS
    flS
    zcS
    (by rfl)
    (He.eqO_ok (Gh.test ht7 17 rfl))
    (He.eqO_ok (Gh.test ht7 18 rfl))
    (of_decide_eq_true (Gh.test ht7 19 rfl))
    (of_decide_eq_true (Gh.test ht7 20 rfl))
    (of_decide_eq_true (Gh.test ht7 21 rfl))
    (He.eqO_ok (Gh.test ht7 22 rfl))
    (of_decide_eq_true (Gh.test ht7 23 rfl))
    (of_decide_eq_true (Gh.test ht7 24 rfl))
    (of_decide_eq_true (Gh.test ht8 0 rfl))
    (of_decide_eq_true (Gh.test ht8 1 rfl))
    (of_decide_eq_true (Gh.test ht8 2 rfl))
    (of_decide_eq_true (Gh.test ht8 3 rfl))
end Hd
end K46
open PySem PySem.W PySem.Calls PyProof.Rows
set_option maxRecDepth 100000 in
set_option maxHeartbeats 0 in
theorem PySem.Challenge.cw_makeskept_k46_boxed_makes_let_go_holds : PySem.Challenge.rw_makeskept_k46_boxed_makes_let_go.Holds := by
  w_on; o_law
  refine HandSHeadRun.head_any (r := OpenLaw.row PySem.Challenge.rw_makeskept_k46_boxed_makes_let_go) (q := view (OpenLaw.row PySem.Challenge.rw_makeskept_k46_boxed_makes_let_go).prog [53]) (H := Gh.hook K46.Hd.as_ K46.Hd.obs K46.Hd.val) (ob := Gh.ob K46.Hd.as_ K46.Hd.obs) (M := 6563) (loose := K46.Hd.names) (d := HandSHeadRun.topDef (OpenLaw.row PySem.Challenge.rw_makeskept_k46_boxed_makes_let_go).prog 53) (kwd := []) (Gh.ob_eq _ _ _)
    (by kernel_rfl) (fun s => by kernel_rfl) K46.Hd.run (by kernel_rfl) (by kernel_rfl) (by kernel_rfl) (by rfl) (by first | assumption | decide +kernel) (by decide +kernel) ⟨rfl, rfl, rfl, rfl, rfl, by decide +kernel⟩ ?hw ?hc
  case hw => w_witness2
  case hc =>
    refine Gh.walkGE (l := PySem.Challenge.rw_makeskept_k46_boxed_makes_let_go) (n := 63) (k := 25) (x := "_law_script") rfl (by decide) (by kernel_rfl) ⟨rfl, by decide, by decide⟩ ?F
    intro w mg fa h Y G hmg0
    obtain ⟨K, KX, c⟩ := Y
    have hmg : mg ("law" : PySem.Str) = some (.ref fa) := by
      have e : (HandSHeadRun.topDef (OpenLaw.row PySem.Challenge.rw_makeskept_k46_boxed_makes_let_go).prog 53).name = ("law" : PySem.Str) := by kernel_rfl
      rw [← e]
      exact hmg0
    obtain ⟨fd, hb, hF⟩ := K46.Hd.all_c (w := w) KX G hmg c
    exact ⟨K, fd, K46.spLaw K, KX, hb, fun H a ns hl _ hS => ⟨a, ns, rfl, hS, hl, fun _ => rfl⟩, hF⟩

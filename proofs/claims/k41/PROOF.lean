import PyProof.Rows.All
import Wide.All
import OpenK.AllK
import Wide.FinOn
import HandS.ForMost
import HandS.IsInst
import HandS.TupLe
import PyProof.ReprLen
import KE.KExcLine
import HandS.Exc
import HandS.ExcOwn
import HandS.WordsExc
import KE.KExcIs
import HandS.TryOnly
import HandS.Nested
import KE.KSuper
import HandS.DictComp
import HandS.Walk
import HandS.Codes
import HandS.Style
import HandS.SetFor
import HandS.More
import HandS.Remove
import HandS.Deep
import HandS.ExcInit
import HandS.HotCalls
import HandS.Conv
import HandS.Head0
import HandS.Head1
import HandS.Head2
import HandS.HeadHook1
import HandS.HeadHook2
import KE.RegKSuper
import PySem.Challenge.RW_makeskept_k41_elder_ones_refused
set_option Elab.async false
set_option linter.all false
set_option maxRecDepth 100000
set_option maxHeartbeats 4000000
/-! A promise of a def that is kept where nothing is being shown (no repr under way), and repr of data under it. -/
namespace Gd
open PySem PySem.Spec PyProof.Rows L2

/-- as FnOk, asked only where no repr is under way -/
structure FnG (P : Program) (w : World) (K : PySem.W.Frag) (mg : Str → Option Value) (base : Heap)
    (CX : CXT) (k : Nat) (f : Addr) (fd : FuncData) (ps : List Str) (sp : Sp) : Prop where
  arity : ∀ vs H Q E, sp vs H Q E → vs.length = ps.length
  go : ∀ (A : Around) (outer : List Env) (s : Shared) (H : Hp) (args : Args) (us : List Value) (vs : List V)
    (Q : VK) (E : XK), A.guards = some [] → Room k A → Env0 P w K mg base A outer s H →
    BindsTo s fd args (ps.zip us) → Vals vs us → sp vs H Q E →
    codeAny (model P w) A (.call (.ref f) args) (CR CX outer P w H s Q E) s

section
variable {P : Program} {w : World} {K : PySem.W.Frag} {mg : Str → Option Value} {base : Heap}
theorem FnG.low {CX : CXT} {j k : Nat} {f : Addr} {fd : FuncData} {ps : List Str} {sp : Sp}
    (F : FnG P w K mg base CX j f fd ps sp) (h : j ≤ k) : FnG P w K mg base CX k f fd ps sp :=
  ⟨F.arity, fun A o s H ar us vs Q E g r => F.go A o s H ar us vs Q E g (r.mono h)⟩
theorem FnG.ofOk {CX : CXT} {k : Nat} {f : Addr} {fd : FuncData} {ps : List Str} {sp : Sp}
    (F : FnOk P w K mg base CX k f fd ps sp) : FnG P w K mg base CX k f fd ps sp :=
  ⟨F.len, fun A o s H ar us vs Q E _ r => F.run A o s H ar us vs Q E r⟩

/-- the rule for a def, told that no repr is under way -/
theorem fnG_of {CX : CXT} {k : Nat} {f : Addr} {name qual : Str} {params : Arguments} {body : List Stmt}
    {scope : Scope} {dV kV doc pm cdv ct oc : Value} {an od : Option Addr} {osl : Array (Option Value)}
    {N ps : List Str} {sp : Sp}
    (lk : K.lookup f = some ⟨oc, od, .func (PySem.W.fnOf name qual params body scope dV kV doc pm an cdv ct), osl⟩)
    (cin : PySem.W.codeIn K cdv qual = true) (S : FnScope N ps scope)
    (ar : ∀ vs H Q E, sp vs H Q E → vs.length = ps.length)
    (bd : ∀ (A : Around) (outer : List Env) (s : Shared) (H : Hp) (vs : List V) (Q : VK) (E : XK),
      A.guards = some [] → Room k (A.deeper (envOfC qual scope s.heap.objs.size f cdv)) → sp vs H Q E →
      ∃ t, PSs (cxOf CX P w K mg base N qual scope f cdv A outer s H E) body t ∧
        t { nx := fun _ H' => Q .non H', rt := Q } (start N vs) H) :
    FnG P w K mg base CX (k + 1) f (PySem.W.fnOf name qual params body scope dV kV doc pm an cdv ct) ps sp := by
  constructor
  · exact ar
  intro A outer s H args us vs Q E hG room env bind rel prem
  have long := ar _ _ _ _ prem
  have kin : K.In s.heap := env.mod.kin.keeps fun b o z => (env.bs b o z).1
  have nl : s.heap.NoLimit := env.mod.nolimit.keeps fun b o z => (env.bs b o z).1
  have kinds : ∀ y ∈ ps.zip us, scope.names.lookup y.1 = some .local ∨
      (scope.names.lookup y.1 = some .cell ∧
        ((cellsFrom (s.heap.objs.size + 1) scope.names []).lookup y.1).isSome = true) := by
    rintro ⟨n, v⟩ hy
    cases S.par n (List.of_mem_zip hy).1 with
    | inl q => exact .inl q
    | inr q => exact .inr ⟨q, PySem.W.cellsFrom_some _ _ _ (.inl q)⟩
  apply codeAny_call_function room.depth (kin _ _ lk) rfl S.co S.gen rfl (PySem.W.codeRec_of kin cin)
  apply bind
  apply wpAny_newFunctionEnv_cells S.kind kinds
  intro en hen s1 x
  subst hen
  refine ⟨nl.keeps x.toInCall.keep, ?_⟩
  apply codeAny_func
  obtain ⟨t, der, rd⟩ := bd A outer s H vs Q E hG (room.deeper _) prem
  have J := inv_start (CX := CX) (E := E) (mg := mg) S room.hd env long rel x
  apply wpAny_mono (der.run [] s1 (start N vs) H _ J rd)
  · intro fl s' hs
    cases fl with
    | ret u =>
      obtain ⟨v, _, H', J', rv, q⟩ := hs
      exact ⟨v, H', J'.os, J'.bare, J'.base, J'.hok, rv, q⟩
    | next =>
      obtain ⟨_, H', J', q⟩ := hs
      exact ⟨.non, H', J'.os, J'.bare, J'.base, J'.hok, rfl, q⟩
    | brk =>
      obtain ⟨_, _, _, q⟩ := hs
      exact q.elim
    | cont =>
      obtain ⟨_, _, _, q⟩ := hs
      exact q.elim
  · intro e s' hs
    exact hs
theorem okG {x qual : Str} {st : Stmt} {f : Addr} {fd : FuncData} {N ps : List Str} {k : Nat} {sp : Sp}
    (F : Fun K x qual st f fd) (S : FnScope N ps (defScope st))
    (ar : ∀ vs H Q E, sp vs H Q E → vs.length = ps.length)
    (bd : ∀ (cdv : Value) (A : Around) (outer : List Env) (s : Shared) (H : Hp) (vs : List V) (Q : VK) (E : XK),
      A.guards = some [] → Room k (A.deeper (envOfC qual (defScope st) s.heap.objs.size f cdv)) → sp vs H Q E →
      ∃ t, PSs (cxOf CX0 P w K mg base N qual (defScope st) f cdv A outer s H E).nox (defBody st) t ∧
        t { nx := fun _ H' => Q .non H', rt := Q } (start N vs) H) :
    FnG P w K mg base CX0 (k + 1) f fd ps sp := by
  obtain ⟨oc, od, kV, doc, pm, an, cdv, ct, osl, rfl, lk, cin⟩ := F.ex
  apply fnG_of lk cin S ar
  intro A outer s H vs Q E hG room prem
  obtain ⟨t, der, rd⟩ := bd cdv A outer s H vs Q E hG room prem
  exact ⟨t, der.nox, rd⟩
end

section
variable {X : Cx} {CX : CXT} {k : Nat} {f : Addr} {fd : FuncData} {ps : List Str} {sp : Sp} {dvs : List V}
  {ds : List Value} {E : XK} {x : Str} {p pos : Pos} {e : Expr} {es : List Expr} {t : TA}
theorem enterG {pins : List (Addr × Obj)} {σ : L2.St} {H : Hp} {s : Shared} {Q : VK} {us : List Value} {vs : List V}
    (F : FnG X.prog X.w X.K X.mg X.base CX k f fd ps sp) (hG : X.A.guards = some []) (hr : Room k X.A)
    (hb : Binds X.K fd ps ds) (hd : Vals dvs ds) (hx : Passes CX X E) (J : Inv X pins σ H s) (rel : Vals vs us)
    (prem : sp (vs ++ dvs) H Q E) :
    wpAny (model X.prog X.w) X.A (call (.ref f) us) (EP X pins σ Q) X.xe s := by
  have rel2 : Vals (vs ++ dvs) (us ++ ds) := rel.append hd
  have long : (us ++ ds).length = ps.length := rel2.length ▸ F.arity _ _ _ _ prem
  apply wpAny_call
  apply codeAny_mono (F.go X.A X.stack s H ⟨us, []⟩ (us ++ ds) (vs ++ dvs) Q E hG hr J.env0 (hb s us J.kIn long)
    rel2 prem)
  intro r s' hq
  match r, hq with
  | .error _, hq => exact hx pins σ H s _ s' J hq
  | .ok (.ret _), hq => exact J.after hq
  | .ok .next, hq => exact hq.elim
  | .ok .brk, hq => exact hq.elim
  | .ok .cont, hq => exact hq.elim
/-- f(e, ..) of a def that keeps its promise where no repr is under way -/
theorem pe_callG (F : FnG X.prog X.w X.K X.mg X.base CX k f fd ps sp) (hG : X.A.guards = some []) (hr : Room k X.A)
    (hg : Gl X x) (hm : X.mg x = some (.ref f)) (hk : PySem.W.keepIn X.K (.ref f) = true) (hb : Binds X.K fd ps ds)
    (hd : Vals dvs ds) (hx : Passes CX X E) (ha : PA X (e :: es) t)
    (hdb : (x == ("__debug__" : Str)) = false := by decide)
    (he : starEach (e :: es) X.env = (false, eval e X.env) :: starEach es X.env := by rfl)
    (hpl : (backTo pos (starEach es X.env)).any (·.1) = false := by rfl) :
    PE X (.Call (.Name x p) (e :: es) [] pos) (tCall sp dvs E t) := by
  constructor
  intro pins s σ H Q J prem
  have arg := ha.run pos pins s σ H _ J prem
  apply wpAny_Call_Name_kw
  apply ld_glob J hg hm (hd := hdb)
  apply PySem.W.callWith_K (h₀ := X.base) J.ok.mod.kin hk (he := he) (hplain := hpl)
  apply thn arg
  rintro us s1 ⟨vs, H1, J1, rel, q⟩
  exact ⟨J1.kIn, enterG F hG hr hb hd hx J1 rel q⟩
end
end Gd
namespace Gd
open PySem PySem.Spec PyProof.Rows L2
section
variable {P : Program} {w : World} {K : PySem.W.Frag} {mg mb : Str → Option Value} {CX : CXT} {k : Nat} {fa a : Addr}
  {fd : FuncData} {x : Str} {sp : Sp} {s₁ : Shared} {vs : List Value} {ns : List Int}
/-- the law's call from one abstract heap that tracks at most the script -/
theorem callOne (kin : K.In s₁.heap) (gl : s₁.heap.Ns mainGlobals mg) (bl : s₁.heap.Ns builtinsNs mb)
    (bb : ∀ x : Str, x ≠ "__name__" → mb x = bootBuiltins x) (nl : s₁.heap.NoLimit) (gn : s₁.gens = #[])
    (at_ : s₁.heap.get? a = some { cls := .type "list", data := .seq vs.toArray }) (room : Room k callerA)
    (F : ∀ base : Heap, K.In base → base.Ns mainGlobals mg → FnG P w K mg base CX k fa fd [x] sp)
    (bind : ∀ (s : Shared) (u : Value), BindsTo s fd ⟨[u], []⟩ [(x, u)])
    (H : Hp) (only : Only H) (prem : sp [.ref a] H (fun v _ => v = .bl true) fun _ _ _ => False)
    (noX : ∀ e s', CX [] H s₁ (fun _ _ _ => False) e s' → False)
    (hok : HOk P w H s₁.heap) (here : ∀ b, H b ≠ none → b = a) (out : H a ≠ none → K.lookup a = none) :
    codeAny (model P w) callerA (.call (.ref fa) ⟨[.ref a], []⟩)
      (fun r s' => r = .ok (.ret (.bool true)) ∧ OldK s₁.heap s'.heap ∧ s'.os = s₁.os ∧ AllBare s'.gens) s₁ := by
  have free : ∀ {b : Addr} {o : Obj} {es : Array DictEntry} {ep : Nat},
      s₁.heap.get? b = some o → o.data = .dict es ep → H b = none := by
    intro b o es ep z dd
    refine Classical.byContradiction fun q => ?_
    have hb := here b q
    rw [hb, at_] at z
    injection z with z
    rw [← z] at dd
    injection dd
  have nsOf : ∀ {b : Addr} {m : Str → Option Value}, s₁.heap.Ns b m → (hidT s₁.heap H).Ns b m := by
    rintro b m ⟨o, es, ep, z, dd, r⟩
    exact ⟨o, es, ep, hidT_get z (free z dd), dd, r⟩
  have kinB : K.In (hidT s₁.heap H) := by
    intro b o z
    refine hidT_get (kin b o z) (Classical.byContradiction fun q => ?_)
    have hb := here b q
    rw [hb] at z q
    rw [out q] at z
    injection z
  have modB : Mod K mg (hidT s₁.heap H) := by
    obtain ⟨mc, l1, l2⟩ := nl
    exact ⟨kinB, nsOf gl, ⟨mb, nsOf bl, bb⟩, ⟨mc, nsOf l1, l2⟩⟩
  have env : Env0 P w K mg (hidT s₁.heap H) callerA [] s₁ H := by
    refine ⟨rfl, modB, fun b o z => of_hidT z, Nat.le_of_eq (hidT_size _ _), trivial, ?_, hok, .of_eq gn⟩
    intro b hb
    exact absurd (show b ∈ ([] : List Addr) from hb) List.not_mem_nil
  have ran := (F _ kinB (nsOf gl)).go callerA [] s₁ H ⟨[.ref a], []⟩ [.ref a] [.ref a] _ _ rfl room env
    (bind s₁ (.ref a)) (.cons rfl .nil) prem
  apply codeAny_mono ran
  intro r s' q
  match r, q with
  | .error _, q => exact (noX _ _ q).elim
  | .ok .next, q => exact q.elim
  | .ok .brk, q => exact q.elim
  | .ok .cont, q => exact q.elim
  | .ok (.ret u), q =>
    obtain ⟨v, H', os, bare, un, hok', rv, ev⟩ := q
    have ev' : v = .bl true := ev
    subst ev'
    have hu : u = Value.bool true := rv
    subst hu
    refine ⟨rfl, ?_, os, bare⟩
    apply OldK.of_keep
    intro b o z
    have nob : b ∉ ([] : List Addr) := List.not_mem_nil
    cases q : H b with
    | none => exact un.keep b o z q nob nob
    | some u =>
      cases only b with
      | inl z0 =>
        rw [q] at z0
        injection z0
      | inr z0 =>
        obtain ⟨ob, xs, z1⟩ := z0
        have y1 := (hok b _ z1).1
        have y2 := (hok' b _ (un.frzs b ob _ z1)).1
        rw [z] at y1
        injection y1 with y1
        rw [y1]
        exact y2
theorem callG (kin : K.In s₁.heap) (gl : s₁.heap.Ns mainGlobals mg) (bl : s₁.heap.Ns builtinsNs mb)
    (bb : ∀ x : Str, x ≠ "__name__" → mb x = bootBuiltins x) (nl : s₁.heap.NoLimit) (gn : s₁.gens = #[])
    (at_ : s₁.heap.get? a = some { cls := .type "list", data := .seq vs.toArray }) (hin : IntsAre vs ns)
    (short : ns.length ≤ sizeLine) (room : Room k callerA)
    (F : ∀ base : Heap, K.In base → base.Ns mainGlobals mg → FnG P w K mg base CX k fa fd [x] sp)
    (bind : ∀ (s : Shared) (u : Value), BindsTo s fd ⟨[u], []⟩ [(x, u)])
    (prem : ∀ H : Hp, Only H → SqL K H a (ns.map V.int) → sp [.ref a] H (fun v _ => v = .bl true) fun _ _ _ => False)
    (noX : ∀ H e s', CX [] H s₁ (fun _ _ _ => False) e s' → False) :
    codeAny (model P w) callerA (.call (.ref fa) ⟨[.ref a], []⟩)
      (fun r s' => r = .ok (.ret (.bool true)) ∧ OldK s₁.heap s'.heap ∧ s'.os = s₁.os ∧ AllBare s'.gens) s₁ := by
  have rv := vals_ints hin
  have lens := hin.length
  cases hk : K.lookup a with
  | some o =>
    have z := kin a o hk
    rw [at_] at z
    injection z with z
    subst z
    have only : Only (fun _ => none) := fun _ => .inl rfl
    refine callOne kin gl bl bb nl gn at_ room F bind (fun _ => none) only (prem _ only ?_) (noX _)
      (fun b u z => ?_) (fun b z => absurd rfl z) fun z => absurd rfl z
    · refine .inr ⟨_, vs.toArray, _, hk, rfl, rfl, rfl, ?_, ?_⟩
      · rw [List.size_toArray, lens]
        exact short
      · simpa using rv
    · have z' : (none : Option HO) = some u := z
      injection z'
  | none =>
    let T : HO := .frz { cls := .type "list", data := .seq vs.toArray } (.lst (ns.map V.int))
    have only : Only (fun b => if b = a then some T else none) := fun b => by
      by_cases hb : b = a
      · exact .inr ⟨_, _, if_pos hb⟩
      · exact .inl (if_neg hb)
    refine callOne kin gl bl bb nl gn at_ room F bind (fun b => if b = a then some T else none) only
      (prem _ only (.inl (.inr ⟨{ cls := .type "list", data := .seq vs.toArray }, if_pos rfl⟩))) (noX _)
      (fun b u z => ?_) (fun b z => ?_) fun _ => hk
    · by_cases hb : b = a
      · have z' : some T = some u := (if_pos hb).symm.trans z
        injection z' with z'
        subst z'
        subst hb
        refine ⟨at_, ?_, vs, _, rv, at_⟩
        rw [List.length_map]
        exact short
      · have z' : (none : Option HO) = some u := (if_neg hb).symm.trans z
        injection z'
    · refine Classical.byContradiction fun hb => z (if_neg hb)
end
/-- the goal that k_head leaves, from the law's promise under FnG -/
theorem walkG {l : PySem.W.OpenLaw} {n k : Nat} {q : Program} {loose : List Str} {XP : (Str → Option Value) → Heap → Prop}
    {YP : World → Heap → Prop} {d : DefRec} {K : Params → PySem.W.Frag} {CX : World → CXT} {sp : World → Sp} {x : Str}
    (most : l.most = some n) (line : n ≤ sizeLine) (nod : d.params.defaults = []) (room : Room k callerA)
    (kin : ∀ (w : World) (h : Heap), YP w h → (K w.params).In h)
    (F : ∀ (w : World) (mg : Str → Option Value) (fa : Addr) (h : Heap),
      (K w.params).In h → h.Ns mainGlobals mg → mg d.name = some (.ref fa) →
      ∃ fd : FuncData, (∀ (s : Shared) (u : Value), BindsTo s fd ⟨[u], []⟩ [(x, u)]) ∧
        ∀ base : Heap, (K w.params).In base → base.Ns mainGlobals mg →
          FnG l.prog w (K w.params) mg base (CX w) k fa fd [x] (sp w))
    (prem : ∀ (w : World) (H : Hp) (a : Addr) (ns : List Int), ns.length ≤ n → Only H →
      SqL (K w.params) H a (ns.map V.int) → sp w [.ref a] H (fun v _ => v = .bl true) fun _ _ _ => False)
    (noX : ∀ (w : World) (H : Hp) (s : Shared) (e : Value) (s' : Shared),
      CX w [] H s (fun _ _ _ => False) e s' → False) :
    PySem.W.WalkO q loose XP YP l.row.toRowW d [] (fun f vs => PySem.call f vs) := by
  apply Att.attach_call most nod
  intro w s₀ s₁ mg mb fa o pm cd doc a vs ns G Y ho hd hcd hmg hobj hints hlen hg
  have kx := kin w _ Y
  obtain ⟨fd, hb, hF⟩ := F w mg fa _ kx G.T.g hmg
  refine callG kx G.T.g G.T.b G.T.builtins G.T.nolimit hg hobj hints (Nat.le_trans hlen line) room hF hb ?_ ?_
  · intro H hO hS
    exact prem w H a ns hlen hO hS
  · intro H e s'
    exact noX w H s₁ e s'
end Gd
namespace Gd
open PySem PySem.Spec PyProof.Rows L2
/-- plain data, or an empty dict -/
inductive D1 (K : PySem.W.Frag) (H : Hp) : V → PyData → Prop
  | dp {v : V} {d : PyData} (h : Dp K H v d) : D1 K H v d
  | emp {a : Addr} (h : H a = some (.dK [])) : D1 K H (.ref a) (.dict [])
inductive D1s (K : PySem.W.Frag) (H : Hp) : List V → List PyData → Prop
  | nil : D1s K H [] []
  | cons {v : V} {vs : List V} {d : PyData} {ds : List PyData} : D1 K H v d → D1s K H vs ds → D1s K H (v :: vs) (d :: ds)
/-- such, or a list or a tuple of such -/
inductive D2 (K : PySem.W.Frag) (H : Hp) : V → PyData → Prop
  | d1 {v : V} {d : PyData} (h : D1 K H v d) : D2 K H v d
  | lst {a : Addr} {xs : List V} {ds : List PyData} : SqL K H a xs → D1s K H xs ds → D2 K H (.ref a) (.list ds)
  | tup {a : Addr} {xs : List V} {ds : List PyData} : SqT K H a xs → D1s K H xs ds → D2 K H (.ref a) (.tuple ds)

mutual
theorem noDict {K : PySem.W.Frag} {H : Hp} : ∀ {v : V} {d : PyData}, Dp K H v d → d.hasDict = false
  | _, _, .non => by simp only [PyData.hasDict]
  | _, _, .bl _ => by simp only [PyData.hasDict]
  | _, _, .int _ => by simp only [PyData.hasDict]
  | _, _, .str _ => by simp only [PyData.hasDict]
  | _, _, .lst _ ha => by
    simp only [PyData.hasDict]
    exact noDicts ha
  | _, _, .tup _ ha => by
    simp only [PyData.hasDict]
    exact noDicts ha
theorem noDicts {K : PySem.W.Frag} {H : Hp} : ∀ {vs : List V} {ds : List PyData}, DpAll K H vs ds → PyData.hasDictAll ds = false
  | _, _, .nil => by simp only [PyData.hasDictAll]
  | _, _, .cons h1 h2 => by simp only [PyData.hasDictAll, noDict h1, noDicts h2, Bool.or_self]
end

section
variable {X : Cx} {pins : List (Addr × Obj)} {σ : L2.St} {H : Hp} {s : Shared}
theorem D1.rd (I : Inv X pins σ H s) {v : V} {d : PyData} {u : Value} (h : D1 X.K H v d) (r : RelV v u) :
    ∃ as, Reads s.heap u d as ∧ (d.hasDict = true → sysModules ∉ as) := by
  cases h with
  | dp h =>
    obtain ⟨as, q⟩ := Dp.reads I d v u h r
    exact ⟨as, q, PyData.noDict_hsm (noDict h)⟩
  | @emp a h =>
    cases (show u = Value.ref a from r)
    obtain ⟨_, hs, vs, kv, o, es, ep, q⟩ := (show ObjOk X.prog X.w H s.heap a (.dK []) from I.hok a _ h)
    cases kv
    obtain ⟨e1, e2, e3, e4⟩ := q
    have e5 : es.toList = [] := by
      have e6 := e4.2.1
      generalize es.toList = l at e6 ⊢
      cases e6
      rfl
    refine ⟨_, Reads.dict (kvs := []) (as := []) (bs := []) e1 e2.1 e3 ?_ ?_, fun _ => ?_⟩
    · rw [e5]
      exact .nil
    · rw [e5]
      exact .nil
    · intro z
      have z' : sysModules = a := by simpa using z
      rw [← z'] at hs
      simp at hs
theorem D1s.rd (I : Inv X pins σ H s) : ∀ {vs : List V} {ds : List PyData} {us : List Value}, D1s X.K H vs ds → Vals vs us →
    ∃ as, ReadsAll s.heap us ds as
  | _, _, _, .nil, .nil => ⟨_, .nil⟩
  | _, _, _, .cons h1 h2, .cons r1 r2 => by
    obtain ⟨as, q1, _⟩ := h1.rd I r1
    obtain ⟨bs, q2⟩ := D1s.rd I h2 r2
    exact ⟨_, .cons q1 q2⟩
theorem D1.one (I : Inv X pins σ H s) {v : V} {d : PyData} {u : Value} (h : D1 X.K H v d) (r : RelV v u)
    (hs : d.showable = true) (hz : d.shown.length ≤ sizeLine) :
    ∃ bs, ReadAtMost s.heap d.depth bs ∧ ReprK X.prog X.w bs s.heap d.depth u d.shown := by
  obtain ⟨as, q, hm⟩ := h.rd I r
  exact ReprK.of_reads q hs hm hz
theorem D1s.each (I : Inv X pins σ H s) {n : Nat} : ∀ {vs : List V} {ds : List PyData} {us : List Value}, D1s X.K H vs ds → Vals vs us →
    PyData.showableAll ds = true → (∀ t ∈ PyData.shownAll ds, t.length ≤ sizeLine) → PyData.depthAll ds ≤ n →
    ∃ bs, ReadAtMost s.heap n bs ∧ ReprAllK X.prog X.w bs s.heap n us (PyData.shownAll ds)
  | _, _, _, .nil, .nil, _, _, _ => ⟨[], (fun _ z => nomatch z), by simp only [PyData.shownAll]; exact .nil⟩
  | _, _, _, .cons (d := d) (ds := ds) h1 h2, .cons r1 r2, hs, hz, hn => by
    have hs' : d.showable = true ∧ PyData.showableAll ds = true := by simpa [PyData.showableAll] using hs
    simp only [PyData.depthAll] at hn
    simp only [PyData.shownAll] at hz ⊢
    obtain ⟨b1, m1, k1⟩ := h1.one I r1 hs'.1 (hz _ List.mem_cons_self)
    obtain ⟨b2, m2, k2⟩ := D1s.each I h2 r2 hs'.2 (fun t ht => hz t (List.mem_cons_of_mem _ ht)) (by omega : PyData.depthAll ds ≤ n)
    refine ⟨b1 ++ b2, (m1.mono (by omega)).append m2, .cons ((k1.more fun b hb => List.mem_append_left _ hb).level_le (by omega)) (k2.more_le (fun b hb => List.mem_append_right _ hb) (Nat.le_refl _))⟩
end

/-- repr of such data where no repr is under way -/
def rRepr (K : PySem.W.Frag) : List V → Hp → VK → Prop := fun xs H Q => ∃ v d, xs = [v] ∧ D2 K H v d ∧ d.showable = true ∧
  d.shown.length ≤ sizeLine ∧ d.depth ≤ 60 ∧ Q (.str d.shown) H
section
variable {X : Cx}
theorem call_repr (hG : X.A.guards = some []) (hu : X.A.units + 64 < cLine) : CallR X (.builtin "repr") (rRepr X.K) := by
  intro pins s σ H xs us Q I rel h
  obtain ⟨v, d, rfl, hd, hs, hz, hdep, q⟩ := h
  obtain ⟨u, rfl, r⟩ := vals1 rel
  cases hd with
  | d1 h1 =>
    cases h1 with
    | dp hp =>
      cases hp with
      | non =>
        cases (show u = Value.none from r)
        simp only [PyData.shown] at q
        exact PySem.P.repr_of_none ⟨.str _, H, I.tok _, ⟨_, rfl⟩, q⟩
      | bl b =>
        cases (show u = Value.bool b from r)
        simp only [PyData.shown] at q
        exact PySem.P.repr_of_bool ⟨.str _, H, I.tok _, ⟨_, rfl⟩, q⟩
      | int i =>
        obtain ⟨t, rfl⟩ := (show ∃ t, u = Value.int i t from r)
        simp only [PyData.shown] at q
        exact PySem.P.repr_of_int (by simpa [PyData.showable] using hs) ⟨.str _, H, I.tok _, ⟨_, rfl⟩, q⟩
      | str x =>
        obtain ⟨t, rfl⟩ := (show ∃ t, u = Value.str x t from r)
        simp only [PyData.shown] at q hz
        exact PySem.P.repr_of_str ⟨.str _, H, I.tok _, ⟨_, rfl⟩, q⟩ hz
      | @lst a ys ds hl ha =>
        cases (show u = Value.ref a from r)
        obtain ⟨as, rd, hm⟩ := (D1.dp (.lst hl ha) : D1 X.K H (.ref a) (.list ds)).rd I rfl
        exact repr_of_reads' rd hs hm hG (by omega) (fun _ _ z => z) (fun h' u tk hk => ⟨.str _, H, I.kept hk, ⟨_, rfl⟩, q⟩) hz
      | @tup a ys ds hl ha =>
        cases (show u = Value.ref a from r)
        obtain ⟨as, rd, hm⟩ := (D1.dp (.tup hl ha) : D1 X.K H (.ref a) (.tuple ds)).rd I rfl
        exact repr_of_reads' rd hs hm hG (by omega) (fun _ _ z => z) (fun h' u tk hk => ⟨.str _, H, I.kept hk, ⟨_, rfl⟩, q⟩) hz
    | @emp a ha =>
      cases (show u = Value.ref a from r)
      obtain ⟨as, rd, hm⟩ := (D1.emp ha : D1 X.K H (.ref a) (.dict [])).rd I rfl
      exact repr_of_reads' rd hs hm hG (by omega) (fun _ _ z => z) (fun h' u tk hk => ⟨.str _, H, I.kept hk, ⟨_, rfl⟩, q⟩) hz
  | @lst a ys ds hl ha =>
    cases (show u = Value.ref a from r)
    obtain ⟨its, rv, ⟨o, n, ho, hc, _, ho2⟩, _⟩ := I.list hl
    obtain ⟨as, rda⟩ := ha.rd I rv
    have hz' : (listText (PyData.shownAll ds)).length ≤ sizeLine := by simpa only [PyData.shown] using hz
    simp only [PyData.depth] at hdep
    obtain ⟨bs, hb, hk⟩ := ha.each I rv (by simpa [PyData.showable] using hs) (fun t ht => Nat.le_trans (listText_mem_le ht) hz') (Nat.le_refl _)
    have hna : a ∉ bs := not_mem_of_deeper (.list ho hc ho2 rda) (by simp only [PyData.depth]; omega) hb
    simp only [PyData.shown] at q
    have ty : s.TypeIs (.ref a) "list" := ⟨o, ho, hc⟩
    have fin : ∀ h' u tk, (∀ b o, s.heap.get? b = some o → h'.get? b = some o) →
        EP X pins σ Q (.str (listText (PyData.shownAll ds)) u) { s with heap := h', toks := tk } :=
      fun h' u tk hk => ⟨.str _, H, I.kept hk, ⟨_, rfl⟩, q⟩
    refine call_repr_slot (by omega) ty PySem.F.slot_list_repr.toG ?_
    cases its with
    | nil =>
      cases rda
      simp only [PyData.shownAll, listText_nil] at fin
      exact call_list_repr_empty ty ho ho2 ⟨_, _, rfl, fin s.heap _ _ fun _ _ e => e⟩
    | cons x l =>
      exact call_list_reprK ho hc ho2 hna (by simpa using hk.length_eq) (fun i y e => hk.item i y (by simpa using e)) hG
        (fun b _ => Clear.nil b) (by show X.A.units + 1 + (_ + 1) < cLine; omega) (fun _ _ z => z) (fun h' u tk hk => ⟨_, _, rfl, fin h' u tk hk⟩) hz'
  | @tup a ys ds hl ha =>
    cases (show u = Value.ref a from r)
    obtain ⟨its, rv, ⟨o, ho, hc, n, ho2⟩, _⟩ := I.tuple hl
    obtain ⟨as, rda⟩ := ha.rd I rv
    have hz' : (tupleText (PyData.shownAll ds)).length ≤ sizeLine := by simpa only [PyData.shown] using hz
    simp only [PyData.depth] at hdep
    obtain ⟨bs, hb, hk⟩ := ha.each I rv (by simpa [PyData.showable] using hs) (fun t ht => Nat.le_trans (tupleText_mem_le ht) hz') (Nat.le_refl _)
    have hna : a ∉ bs := not_mem_of_deeper (.tuple ho hc ho2 rda) (by simp only [PyData.depth]; omega) hb
    simp only [PyData.shown] at q
    have ty : s.TypeIs (.ref a) "tuple" := ⟨o, ho, hc⟩
    refine call_repr_slot (by omega) ty PySem.F.slot_tuple_repr ?_
    exact call_tuple_reprK ho hc ho2 hna (by simpa using hk) hG (fun b _ => Clear.nil b) (by show X.A.units + 1 + (_ + 1) < cLine; omega) (fun _ _ z => z)
      (fun h' u tk hk => ⟨_, _, rfl, ⟨.str _, H, I.kept hk, ⟨_, rfl⟩, q⟩⟩) hz'
end
end Gd
namespace Gd
open PySem PySem.Spec PyProof.Rows L2
/-- a def of the top, with its name -/
structure DefAt (K : PySem.W.Frag) (mg : Str → Option Value) (x : Str) (st : Stmt) (ps : List Str) : Prop where
  ex : ∃ (f : Addr) (fd : FuncData), Fun K x x st f fd ∧ mg x = some (.ref f) ∧ Binds K fd ps []
/-- a def by its name, its promise kept where no repr is under way -/
structure CalG (P : Program) (w : World) (K : PySem.W.Frag) (mg : Str → Option Value) (base : Heap) (k : Nat) (x : Str) (sp : Sp) : Prop where
  ex : ∃ (f : Addr) (fd : FuncData) (ps : List Str), FnG P w K mg base CX0 k f fd ps sp ∧ mg x = some (.ref f) ∧
    PySem.W.keepIn K (.ref f) = true ∧ Binds K fd ps []
section
variable {P : Program} {w : World} {K : PySem.W.Frag} {mg : Str → Option Value} {base : Heap}
theorem DefAt.cal {x : Str} {st : Stmt} {N ps : List Str} {k : Nat} {sp : Sp} (D : DefAt K mg x st ps) (S : FnScope N ps (defScope st))
    (ar : ∀ vs H Q E, sp vs H Q E → vs.length = ps.length)
    (bd : ∀ (f : Addr) (cdv : Value) (A : Around) (outer : List Env) (s : Shared) (H : Hp) (vs : List V) (Q : VK) (E : XK),
      A.guards = some [] → Room k (A.deeper (envOfC x (defScope st) s.heap.objs.size f cdv)) → sp vs H Q E →
      ∃ t, PSs (cxOf CX0 P w K mg base N x (defScope st) f cdv A outer s H E).nox (defBody st) t ∧
        t { nx := fun _ H' => Q .non H', rt := Q } (start N vs) H) : CalG P w K mg base (k + 1) x sp := by
  obtain ⟨f, fd, F, m, b⟩ := D.ex
  exact ⟨f, fd, ps, okG F S ar (bd f), m, F.kp, b⟩
theorem DefAt.mk' {X : K.In base} {x : Str} {st : Stmt} {ps : List Str} {f : Addr} {oc : Value} {od an : Option Addr} {osl : Array (Option Value)} {kV doc pm cdv ct : Value}
    (m : mg x = some (.ref f))
    (l : K.lookup f = some ⟨oc, od, .func (PySem.W.fnOf x x (defArgs st) (defBody st) (defScope st) .none kV doc pm an cdv ct), osl⟩)
    (c : PySem.W.codeIn K cdv x = true) (k : PySem.W.keepIn K (.ref f) = true)
    (b : ∀ (kV doc pm : Value) (an : Option Addr) (cdv ct : Value) (us : List Value), us.length = ps.length →
      bindArgs (PySem.W.fnOf x x (defArgs st) (defBody st) (defScope st) .none kV doc pm an cdv ct) ⟨us, []⟩ = pure (ps.zip us)) :
    DefAt K mg x st ps := by
  have F := fun_mk (st := st) l c k
  exact ⟨f, _, F, m, F.binds b⟩
end
section
variable {X : Cx} {k : Nat} {sp : Sp} {x : Str} {p pos : Pos} {e : Expr} {es : List Expr} {t : TA}
theorem pe_g (c : CalG X.prog X.w X.K X.mg X.base k x sp) (hG : X.A.guards = some []) (hr : Room k X.A) (hg : Gl X x)
    (ha : PA X (e :: es) t) (hdb : (x == ("__debug__" : Str)) = false := by decide)
    (he : starEach (e :: es) X.env = (false, eval e X.env) :: starEach es X.env := by rfl)
    (hpl : (backTo pos (starEach es X.env)).any (·.1) = false := by rfl) :
    PE X (.Call (.Name x p) (e :: es) [] pos) (tCall sp [] E0 t) := by
  obtain ⟨f, fd, ps, F, m, kp, b⟩ := c.ex
  exact pe_callG F hG hr hg m kp b .nil pass0 ha hdb he hpl
/-- a module's constant, a whole number -/
def GInt (mg : Str → Option Value) (x : Str) (n : Int) : Prop := ∃ t, mg x = some (.int n t)
theorem pe_gi {n : Int} (hg : Gl X x) (h : GInt X.mg x n) (hd : (x == ("__debug__" : Str)) = false := by decide) : PE X (.Name x pos) (tC (.int n)) := by
  obtain ⟨t, h⟩ := h
  exact pe_glob hg h ⟨t, rfl⟩ hd
/-- a module's constant, a text -/
def GStr (mg : Str → Option Value) (x : Str) (z : Str) : Prop := ∃ t, mg x = some (.str z t)
theorem pe_gs {z : Str} (hg : Gl X x) (h : GStr X.mg x z) (hd : (x == ("__debug__" : Str)) = false := by decide) : PE X (.Name x pos) (tC (.str z)) := by
  obtain ⟨t, h⟩ := h
  exact pe_glob hg h ⟨t, rfl⟩ hd
theorem hu64 {A : Around} (hr : Room k A) : A.units + 64 < cLine := by
  have := hr.un
  omega
/-- x is True, x is False, for any x -/
def isB (x : V) (b : Bool) : Bool := match x with
  | .bl a => a == b
  | _ => false
theorem op_isB : OpR X (compareOp .Is) (fun x y H Q => ∃ b, y = .bl b ∧ Q (.bl (isB x b)) H) := by
  intro pins s σ H x y v u Q I rx ry h
  obtain ⟨b, rfl, q⟩ := h
  cases (show u = Value.bool b from ry)
  cases x with
  | non =>
    cases (show v = Value.none from rx)
    exact wpAny_is_other rfl (fun z => nomatch z) ⟨.bl false, H, I, rfl, q⟩
  | bl a =>
    cases (show v = Value.bool a from rx)
    by_cases e : a = b
    · subst e
      refine wpAny_is_self rfl ⟨.bl true, H, I, rfl, ?_⟩
      simpa [isB] using q
    · refine wpAny_is_other rfl (fun z => e (Value.bool.inj z)) ⟨.bl false, H, I, rfl, ?_⟩
      have e2 : isB (.bl a) b = false := beq_eq_false_iff_ne.mpr e
      rw [e2] at q
      exact q
  | int i =>
    obtain ⟨t, rfl⟩ := (show ∃ t, v = Value.int i t from rx)
    exact wpAny_is_other rfl (fun z => nomatch z) ⟨.bl false, H, I, rfl, q⟩
  | str i =>
    obtain ⟨t, rfl⟩ := (show ∃ t, v = Value.str i t from rx)
    exact wpAny_is_other rfl (fun z => nomatch z) ⟨.bl false, H, I, rfl, q⟩
  | byt i =>
    obtain ⟨t, rfl⟩ := (show ∃ t, v = Value.bytes i t from rx)
    exact wpAny_is_other rfl (fun z => nomatch z) ⟨.bl false, H, I, rfl, q⟩
  | flt i =>
    obtain ⟨t, rfl⟩ := (show ∃ t, v = Value.float i t from rx)
    exact wpAny_is_other rfl (fun z => nomatch z) ⟨.bl false, H, I, rfl, q⟩
  | ref i =>
    cases (show v = Value.ref i from rx)
    exact wpAny_is_other rfl (fun z => nomatch z) ⟨.bl false, H, I, rfl, q⟩
  | ty i =>
    cases (show v = Value.type i from rx)
    exact wpAny_is_other rfl (fun z => nomatch z) ⟨.bl false, H, I, rfl, q⟩
theorem op_isntB : OpR X (compareOp .IsNot) (fun x y H Q => ∃ b, y = .bl b ∧ Q (.bl (!isB x b)) H) := by
  intro pins s σ H x y v u Q I rx ry h
  obtain ⟨b, rfl, q⟩ := h
  cases (show u = Value.bool b from ry)
  cases x with
  | non =>
    cases (show v = Value.none from rx)
    exact wpAny_isNot_other rfl (fun z => nomatch z) ⟨.bl true, H, I, rfl, q⟩
  | bl a =>
    cases (show v = Value.bool a from rx)
    by_cases e : a = b
    · subst e
      refine wpAny_isNot_self rfl ⟨.bl false, H, I, rfl, ?_⟩
      simpa [isB] using q
    · refine wpAny_isNot_other rfl (fun z => e (Value.bool.inj z)) ⟨.bl true, H, I, rfl, ?_⟩
      have e2 : isB (.bl a) b = false := beq_eq_false_iff_ne.mpr e
      rw [e2] at q
      exact q
  | int i =>
    obtain ⟨t, rfl⟩ := (show ∃ t, v = Value.int i t from rx)
    exact wpAny_isNot_other rfl (fun z => nomatch z) ⟨.bl true, H, I, rfl, q⟩
  | str i =>
    obtain ⟨t, rfl⟩ := (show ∃ t, v = Value.str i t from rx)
    exact wpAny_isNot_other rfl (fun z => nomatch z) ⟨.bl true, H, I, rfl, q⟩
  | byt i =>
    obtain ⟨t, rfl⟩ := (show ∃ t, v = Value.bytes i t from rx)
    exact wpAny_isNot_other rfl (fun z => nomatch z) ⟨.bl true, H, I, rfl, q⟩
  | flt i =>
    obtain ⟨t, rfl⟩ := (show ∃ t, v = Value.float i t from rx)
    exact wpAny_isNot_other rfl (fun z => nomatch z) ⟨.bl true, H, I, rfl, q⟩
  | ref i =>
    cases (show v = Value.ref i from rx)
    exact wpAny_isNot_other rfl (fun z => nomatch z) ⟨.bl true, H, I, rfl, q⟩
  | ty i =>
    cases (show v = Value.type i from rx)
    exact wpAny_isNot_other rfl (fun z => nomatch z) ⟨.bl true, H, I, rfl, q⟩
end
/-! names of the built-ins -/
theorem boot_len_ : bootBuiltins "len" = some (.builtin "len") := by decide +kernel
theorem boot_max_ : bootBuiltins "max" = some (.builtin "max") := by decide +kernel
theorem boot_min_ : bootBuiltins "min" = some (.builtin "min") := by decide +kernel
theorem boot_abs_ : bootBuiltins "abs" = some (.builtin "abs") := by decide +kernel
theorem boot_all_ : bootBuiltins "all" = some (.builtin "all") := by decide +kernel
theorem boot_repr_ : bootBuiltins "repr" = some (.builtin "repr") := by decide +kernel
theorem boot_isinstance_ : bootBuiltins "isinstance" = some (.builtin "isinstance") := by decide +kernel
theorem boot_int_ : bootBuiltins "int" = some (.type "int") := by decide +kernel
theorem boot_bool_ : bootBuiltins "bool" = some (.type "bool") := by decide +kernel
theorem boot_str_ : bootBuiltins "str" = some (.type "str") := by decide +kernel
theorem boot_list_ : bootBuiltins "list" = some (.type "list") := by decide +kernel
theorem boot_tuple_ : bootBuiltins "tuple" = some (.type "tuple") := by decide +kernel
theorem boot_dict_ : bootBuiltins "dict" = some (.type "dict") := by decide +kernel

/-! ### the box of a cell: what is drawn of it is any number below the bound -/
def BoxAt (H : Hp) (b : Addr) : Prop := ∃ x y z : Int, 0 ≤ x ∧ 0 ≤ y ∧ y < 2147483629 ∧ H b = some (.lst [.int x, .int y, .int z])
/-- all but the box is kept -/
def Kp (b : Addr) (H H' : Hp) : Prop := ∀ c o, c ≠ b → H c = some o → H' c = some o
theorem Kp.refl {b : Addr} {H : Hp} : Kp b H H := fun _ _ _ z => z
theorem Kp.trans {b : Addr} {H H1 H2 : Hp} (h : Kp b H H1) (k : Kp b H1 H2) : Kp b H H2 := fun c o n z => k c o n (h c o n z)
theorem Kp.upd {b p : Addr} {H H' : Hp} {o : HO} (h : Kp b H H') (n : H' p = none) : Kp b H (upd H' p o) := fun c u hc z => by
  have z2 := h c u hc z
  rw [upd_ne (ne_of_none z2 n)]
  exact z2
theorem BoxAt.upd {b p : Addr} {H : Hp} {o : HO} (h : BoxAt H b) (n : H p = none) : BoxAt (L2.upd H p o) b := by
  obtain ⟨x, y, z, h1, h2, h3, h4⟩ := h
  refine ⟨x, y, z, h1, h2, h3, ?_⟩
  rw [upd_ne (ne_of_none h4 n)]
  exact h4
theorem BoxAt.ne {b p : Addr} {H : Hp} (h : BoxAt H b) (n : H p = none) : p ≠ b := by
  obtain ⟨x, y, z, _, _, _, h4⟩ := h
  exact (ne_of_none h4 n).symm
def spTake : Sp := fun vs H Q _ => ∃ (b : Addr) (m : Int), vs = [.ref b, .int m] ∧ BoxAt H b ∧ 0 < m ∧ m ≤ 1000000000 ∧
  ∀ (d : Int) (H' : Hp), 0 ≤ d → d < m → BoxAt H' b → (∀ c, c ≠ b → H' c = H c) → Q (.int d) H'
def spCell (K : PySem.W.Frag) : Sp := fun vs H Q _ => ∃ (a : Addr) (ns : List Int) (k : Int), vs = [.ref a, .int k] ∧ SqL K H a (ns.map V.int) ∧
  ns.length ≤ 63 ∧ 0 ≤ k ∧ ∀ n : Int, Q (.int n) H
def spBox : Sp := fun vs H Q _ => ∃ n : Int, vs = [.int n] ∧ ∀ (b : Addr) (H' : Hp), H b = none → BoxAt H' b → (∀ c, c ≠ b → H' c = H c) → Q (.ref b) H'
theorem kp_of {b : Addr} {H H' : Hp} (h : ∀ c, c ≠ b → H' c = H c) : Kp b H H' := fun c o n z => by
  rw [h c n]
  exact z
theorem atI_ints {ns : List Int} {k : Int} (h0 : 0 ≤ k) (h1 : k < ns.length) : ∃ n, atI (ns.map V.int) k = some (.int n) := by
  obtain ⟨j, rfl⟩ : ∃ j : Nat, k = j := ⟨k.toNat, by omega⟩
  have hj : j < ns.length := by omega
  refine ⟨ns[j], atI_nat ?_⟩
  rw [List.getElem?_map, List.getElem?_eq_getElem hj]
  rfl
end Gd
namespace Gd
open PySem PySem.Spec PyProof.Rows L2
/-! ### data by its shape -/
/-- all but what N names is kept -/
def Kq (N : Addr → Prop) (H H' : Hp) : Prop := ∀ c o, ¬ N c → H c = some o → H' c = some o
mutual
/-- the value shows the data d, laid in objects that N does not name -/
inductive Da (H : Hp) (N : Addr → Prop) : V → PyData → Prop
  | non : Da H N .non .none
  | bl (b : Bool) : Da H N (.bl b) (.bool b)
  | int (i : Int) : Da H N (.int i) (.int i)
  | str (x : Str) : Da H N (.str x) (.str x)
  | lst {a : Addr} {xs : List V} {ds : List PyData} : ¬ N a → H a = some (.lst xs) → Das H N xs ds → Da H N (.ref a) (.list ds)
  | tup {a : Addr} {xs : List V} {ds : List PyData} : ¬ N a → H a = some (.tup xs) → Das H N xs ds → Da H N (.ref a) (.tuple ds)
inductive Das (H : Hp) (N : Addr → Prop) : List V → List PyData → Prop
  | nil : Das H N [] []
  | cons {v : V} {vs : List V} {d : PyData} {ds : List PyData} : Da H N v d → Das H N vs ds → Das H N (v :: vs) (d :: ds)
end
mutual
theorem Da.kq {H H' : Hp} {N : Addr → Prop} (k : Kq N H H') : ∀ {v : V} {d : PyData}, Da H N v d → Da H' N v d
  | _, _, .non => .non
  | _, _, .bl b => .bl b
  | _, _, .int i => .int i
  | _, _, .str x => .str x
  | _, _, .lst n h s => .lst n (k _ _ n h) (Das.kq k s)
  | _, _, .tup n h s => .tup n (k _ _ n h) (Das.kq k s)
theorem Das.kq {H H' : Hp} {N : Addr → Prop} (k : Kq N H H') : ∀ {vs : List V} {ds : List PyData}, Das H N vs ds → Das H' N vs ds
  | _, _, .nil => .nil
  | _, _, .cons h s => .cons (Da.kq k h) (Das.kq k s)
end
mutual
theorem Da.wk {H : Hp} {N M : Addr → Prop} (k : ∀ a, M a → N a) : ∀ {v : V} {d : PyData}, Da H N v d → Da H M v d
  | _, _, .non => .non
  | _, _, .bl b => .bl b
  | _, _, .int i => .int i
  | _, _, .str x => .str x
  | _, _, .lst n h s => .lst (fun z => n (k _ z)) h (Das.wk k s)
  | _, _, .tup n h s => .tup (fun z => n (k _ z)) h (Das.wk k s)
theorem Das.wk {H : Hp} {N M : Addr → Prop} (k : ∀ a, M a → N a) : ∀ {vs : List V} {ds : List PyData}, Das H N vs ds → Das H M vs ds
  | _, _, .nil => .nil
  | _, _, .cons h s => .cons (Da.wk k h) (Das.wk k s)
end
mutual
theorem Da.dp {K : PySem.W.Frag} {H : Hp} {N : Addr → Prop} : ∀ {v : V} {d : PyData}, Da H N v d → Dp K H v d
  | _, _, .non => .non
  | _, _, .bl b => .bl b
  | _, _, .int i => .int i
  | _, _, .str x => .str x
  | _, _, .lst _ h s => .lst (SqL.of h) (Das.dp s)
  | _, _, .tup _ h s => .tup (SqT.of h) (Das.dp s)
theorem Das.dp {K : PySem.W.Frag} {H : Hp} {N : Addr → Prop} : ∀ {vs : List V} {ds : List PyData}, Das H N vs ds → DpAll K H vs ds
  | _, _, .nil => .nil
  | _, _, .cons h s => .cons (Da.dp h) (Das.dp s)
end
theorem Das.len {H : Hp} {N : Addr → Prop} : ∀ {vs : List V} {ds : List PyData}, Das H N vs ds → vs.length = ds.length
  | _, _, .nil => rfl
  | _, _, .cons _ s => by rw [List.length_cons, List.length_cons, s.len]
theorem Das.get {H : Hp} {N : Addr → Prop} : ∀ {vs : List V} {ds : List PyData} {i : Nat} {v : V}, Das H N vs ds → vs[i]? = some v → ∃ d, ds[i]? = some d ∧ Da H N v d
  | _, _, 0, _, .cons h _, e => ⟨_, rfl, by
      have e2 := Option.some.inj e
      subst e2
      exact h⟩
  | _, _, i + 1, v, .cons _ s, e => s.get (i := i) (v := v) e
  | _, _, i, _, .nil, e => by simp at e
theorem Das.snoc {H : Hp} {N : Addr → Prop} {v : V} {d : PyData} : ∀ {vs : List V} {ds : List PyData}, Das H N vs ds → Da H N v d → Das H N (vs ++ [v]) (ds ++ [d])
  | _, _, .nil, h => .cons h .nil
  | _, _, .cons g s, h => .cons g (s.snoc h)
theorem Das.set {H : Hp} {N : Addr → Prop} {v : V} {d : PyData} : ∀ {vs : List V} {ds : List PyData} {i : Nat}, Das H N vs ds → Da H N v d → Das H N (vs.set i v) (ds.set i d)
  | _, _, _, .nil, _ => .nil
  | _, _, 0, .cons _ s, h => .cons h s
  | _, _, _ + 1, .cons g s, h => .cons g (s.set h)

theorem same_sqT {K : PySem.W.Frag} {H H' : Hp} {a : Addr} {xs : List V} (s : Same H H') (h : SqT K H a xs) : SqT K H' a xs := by
  rcases h with h | h
  · refine .inl ?_
    rcases h with h | ⟨o, h⟩
    · exact .inl (s _ _ h)
    · exact .inr ⟨o, s _ _ h⟩
  · exact .inr h
mutual
theorem dpSame {K : PySem.W.Frag} {H H' : Hp} (s : Same H H') : ∀ {v : V} {d : PyData}, Dp K H v d → Dp K H' v d
  | _, _, .non => .non
  | _, _, .bl b => .bl b
  | _, _, .int i => .int i
  | _, _, .str x => .str x
  | _, _, .lst h r => .lst (s.seq h) (dpSames s r)
  | _, _, .tup h r => .tup (same_sqT s h) (dpSames s r)
theorem dpSames {K : PySem.W.Frag} {H H' : Hp} (s : Same H H') : ∀ {vs : List V} {ds : List PyData}, DpAll K H vs ds → DpAll K H' vs ds
  | _, _, .nil => .nil
  | _, _, .cons h r => .cons (dpSame s h) (dpSames s r)
end
theorem dpLen {K : PySem.W.Frag} {H : Hp} : ∀ {vs : List V} {ds : List PyData}, DpAll K H vs ds → vs.length = ds.length
  | _, _, .nil => rfl
  | _, _, .cons _ s => by rw [List.length_cons, List.length_cons, dpLen s]
theorem dpGet {K : PySem.W.Frag} {H : Hp} : ∀ {vs : List V} {ds : List PyData} {i : Nat} {v : V}, DpAll K H vs ds → vs[i]? = some v → ∃ d, ds[i]? = some d ∧ Dp K H v d
  | _, _, 0, _, .cons h _, e => ⟨_, rfl, by
      have e2 := Option.some.inj e
      subst e2
      exact h⟩
  | _, _, i + 1, v, .cons _ s, e => dpGet (i := i) (v := v) s e
  | _, _, i, _, .nil, e => by simp at e
theorem d1Same {K : PySem.W.Frag} {H H' : Hp} (s : Same H H') {v : V} {d : PyData} (h : D1 K H v d) : D1 K H' v d := by
  cases h with
  | dp h => exact .dp (dpSame s h)
  | emp h => exact .emp (s _ _ h)
/-! ### the class of data -/
def tyN : PyData → String
  | .none => "NoneType"
  | .bool _ => "bool"
  | .int _ => "int"
  | .str _ => "str"
  | .list _ => "list"
  | .tuple _ => "tuple"
  | .dict _ => "dict"
def isIntD : PyData → Bool
  | .bool _ => true
  | .int _ => true
  | _ => false
def isBoolD : PyData → Bool
  | .bool _ => true
  | _ => false
def isStrD : PyData → Bool
  | .str _ => true
  | _ => false
def isTupD : PyData → Bool
  | .tuple _ => true
  | _ => false
def isSeqD : PyData → Bool
  | .list _ => true
  | .tuple _ => true
  | _ => false
theorem tyL {K : PySem.W.Frag} {H : Hp} {a : Addr} {xs : List V} (h : SqL K H a xs) : TyX K H (.ref a) (.type "list") := by
  rcases h with h | ⟨o, _, _, h, hc, _⟩
  · rcases h with h | ⟨o, h⟩
    · exact .base (.lst h)
    · exact .base (.frz h)
  · exact .kList h hc
theorem tyT {K : PySem.W.Frag} {H : Hp} {a : Addr} {xs : List V} (h : SqT K H a xs) : TyX K H (.ref a) (.type "tuple") := by
  rcases h with h | ⟨o, _, _, h, hc, _⟩
  · rcases h with h | ⟨o, h⟩
    · exact .base (.tup h)
    · exact .fTuple h
  · exact .kTuple h hc
theorem tyD {K : PySem.W.Frag} {H : Hp} {v : V} {d : PyData} (h : D1 K H v d) : TyX K H v (.type (tyN d)) := by
  cases h with
  | dp h =>
    cases h with
    | non => exact .base .non
    | bl b => exact .base (.bl b)
    | int i => exact .base (.int i)
    | str x => exact .base (.str x)
    | lst h _ => exact tyL h
    | tup h _ => exact tyT h
  | emp h => exact .base (.dK h)
theorem kInt {K : PySem.W.Frag} (d : PyData) : PySem.W.kitOne K (.type (tyN d)) (.type "int") = some (isIntD d) := by
  cases d
  all_goals exact kit_ty (by simp only [tyN, isIntD]; decide +kernel)
theorem kBool {K : PySem.W.Frag} (d : PyData) : PySem.W.kitOne K (.type (tyN d)) (.type "bool") = some (isBoolD d) := by
  cases d
  all_goals exact kit_ty (by simp only [tyN, isBoolD]; decide +kernel)
theorem kStr {K : PySem.W.Frag} (d : PyData) : PySem.W.kitOne K (.type (tyN d)) (.type "str") = some (isStrD d) := by
  cases d
  all_goals exact kit_ty (by simp only [tyN, isStrD]; decide +kernel)
theorem kTup {K : PySem.W.Frag} (d : PyData) : PySem.W.kitOne K (.type (tyN d)) (.type "tuple") = some (isTupD d) := by
  cases d
  all_goals exact kit_ty (by simp only [tyN, isTupD]; decide +kernel)
theorem kLst {K : PySem.W.Frag} (d : PyData) : PySem.W.kitOne K (.type (tyN d)) (.type "list") = some (isSeqD d && !isTupD d) := by
  cases d
  all_goals exact kit_ty (by simp only [tyN, isSeqD, isTupD]; decide +kernel)
theorem kSeq {K : PySem.W.Frag} (d : PyData) : PySem.W.kitAny K (.type (tyN d)) [.type "list", .type "tuple"] = some (isSeqD d) := by
  refine kitAny_cons (kLst d) (fun z => kitAny_cons (kTup d) (fun y => ?_) fun y => ?_) fun z => ?_
  · have e : isSeqD d = false := by
      cases d
      all_goals simp_all [isSeqD, isTupD]
    rw [e]
    exact kitAny_nil
  · cases d
    all_goals simp_all [isSeqD, isTupD]
  · cases d
    all_goals simp_all [isSeqD, isTupD]
theorem clsSeq : Paired ClsV [.ty "list", .ty "tuple"] [.type "list", .type "tuple"] := .cons (.ty _) (.cons (.ty _) .nil)
/-! ### how long it is when shown -/
def Big (n : Int) : Prop := -(10 ^ 40) ≤ n ∧ n ≤ 10 ^ 40
theorem big_log {n : Int} (h : Big n) : n.natAbs.log2 < 1920 := by
  have h0 : n.natAbs < 2 ^ 1920 := by
    have h1 : n.natAbs ≤ 10 ^ 40 := by
      obtain ⟨h1, h2⟩ := h
      omega
    exact Nat.lt_of_le_of_lt h1 (by decide +kernel)
  by_cases z : n.natAbs = 0
  · rw [z]
    decide +kernel
  · exact (Nat.log2_lt z).mpr h0
/-- it may be shown, in so many signs, so deep -/
structure Okd (d : PyData) (m e : Nat) : Prop where
  sh : d.showable = true
  ln : d.shown.length ≤ m
  dp : d.depth ≤ e
theorem Okd.up {d : PyData} {m e m' e' : Nat} (h : Okd d m e) (h1 : m ≤ m') (h2 : e ≤ e') : Okd d m' e' := ⟨h.sh, Nat.le_trans h.ln h1, Nat.le_trans h.dp h2⟩
theorem okNone : Okd .none 5 0 := ⟨by simp only [PyData.showable], by simp only [PyData.shown]; decide +kernel, by simp only [PyData.depth]; decide⟩
theorem okBool (b : Bool) : Okd (.bool b) 5 0 := by
  refine ⟨by simp only [PyData.showable], ?_, by simp only [PyData.depth]; decide⟩
  cases b
  · simp only [PyData.shown]
    decide +kernel
  · simp only [PyData.shown]
    decide +kernel
theorem okInt {n : Int} (h : Big n) : Okd (.int n) 50 0 := by
  refine ⟨?_, ?_, by simp only [PyData.depth]; decide⟩
  · simp only [PyData.showable, decide_eq_true_eq]
    exact big_log h
  · simp only [PyData.shown]
    rw [PySem.ofString_length]
    have h1 : n.natAbs < 10 ^ 41 := by
      have h1 : n.natAbs ≤ 10 ^ 40 := by
        obtain ⟨h1, h2⟩ := h
        omega
      exact Nat.lt_of_le_of_lt h1 (by decide +kernel)
    exact Nat.le_trans (int_text_length_le10 (k := 41) (by decide) h1) (by decide)
theorem okStr {x : Str} {m : Nat} (h : (reprText x).length ≤ m) : Okd (.str x) m 0 :=
  ⟨by simp only [PyData.showable], by simp only [PyData.shown]; exact h, by simp only [PyData.depth]; decide⟩
theorem okEmp : Okd (.dict []) 5 1 := by
  refine ⟨by simp only [PyData.showable, PyData.showableKv], ?_, by simp only [PyData.depth, PyData.depthKv]; decide⟩
  simp only [PyData.shown, PyData.shownKv]
  decide +kernel
theorem sum_le {m : Nat} : ∀ ts : List Str, (∀ t ∈ ts, t.length ≤ m) → (ts.map (·.length)).sum ≤ m * ts.length
  | [], _ => by simp
  | t :: r, h => by
    have h1 := h t List.mem_cons_self
    have h2 := sum_le r fun x hx => h x (List.mem_cons_of_mem _ hx)
    rw [List.map_cons, List.sum_cons, List.length_cons, Nat.mul_succ]
    show t.length + _ ≤ _
    omega
theorem oks {m e : Nat} : ∀ {ds : List PyData}, (∀ d ∈ ds, Okd d m e) → PyData.showableAll ds = true ∧ (∀ t ∈ PyData.shownAll ds, t.length ≤ m) ∧ PyData.depthAll ds ≤ e ∧ (PyData.shownAll ds).length = ds.length
  | [], _ => ⟨by simp only [PyData.showableAll], by simp [PyData.shownAll], by simp only [PyData.depthAll]; exact Nat.zero_le _, by simp only [PyData.shownAll]; rfl⟩
  | d :: r, h => by
    have a := h d List.mem_cons_self
    obtain ⟨b1, b2, b3, b4⟩ := oks fun x hx => h x (List.mem_cons_of_mem _ hx)
    refine ⟨by simp only [PyData.showableAll, a.sh, b1, Bool.and_self], ?_, ?_, by simp only [PyData.shownAll, List.length_cons, b4]⟩
    · intro t ht
      simp only [PyData.shownAll, List.mem_cons] at ht
      rcases ht with rfl | ht
      · exact a.ln
      · exact b2 t ht
    · have := a.dp
      simp only [PyData.depthAll]
      omega
theorem okList {ds : List PyData} {m e n : Nat} (h : ∀ d ∈ ds, Okd d m e) (l : ds.length ≤ n) : Okd (.list ds) (m * n + 2 * n + 3) (e + 1) := by
  obtain ⟨b1, b2, b3, b4⟩ := oks h
  refine ⟨by simp only [PyData.showable, b1], ?_, by simp only [PyData.depth]; omega⟩
  simp only [PyData.shown]
  have h1 := listText_len_le (PyData.shownAll ds)
  have h2 := sum_le _ b2
  rw [b4] at h1 h2
  have h3 : m * ds.length ≤ m * n := Nat.mul_le_mul_left m l
  omega
theorem okTuple {ds : List PyData} {m e n : Nat} (h : ∀ d ∈ ds, Okd d m e) (l : ds.length ≤ n) : Okd (.tuple ds) (m * n + 2 * n + 3) (e + 1) := by
  obtain ⟨b1, b2, b3, b4⟩ := oks h
  refine ⟨by simp only [PyData.showable, b1], ?_, by simp only [PyData.depth]; omega⟩
  simp only [PyData.shown]
  have h1 := tupleText_len_le (PyData.shownAll ds)
  have h2 := sum_le _ b2
  rw [b4] at h1 h2
  have h3 : m * ds.length ≤ m * n := Nat.mul_le_mul_left m l
  omega
theorem line_le {n : Nat} (h : n ≤ 1000000) : n ≤ sizeLine := Nat.le_trans h (by decide)
theorem bLn (B : Bool) : (PyData.bool B).shown.length ≤ sizeLine := Nat.le_trans (okBool B).ln (by decide)
theorem bDp (B : Bool) : (PyData.bool B).depth ≤ 60 := Nat.le_trans (okBool B).dp (by decide)
theorem ifSame {x : V} {A B : Prop} (h : B) : if (!decide (x = x)) = true then A else B := by
  rw [decide_eq_true rfl]
  exact h
/-! ### heaps and picks -/
theorem same_new {H : Hp} {p : Addr} {o : HO} (h : H p = none) : Same H (upd H p o) := fun b x e => by
  rw [upd_ne (ne_of_none e h)]
  exact e
theorem kep {H : Hp} {p q : Addr} {o u : HO} (h : H p = some o) (n : H q = none) : (upd H q u) p = some o := by
  rw [upd_ne (ne_of_none h n)]
  exact h
theorem upd_none {H : Hp} {p q : Addr} {o : HO} (h : upd H p o q = none) : H q = none := by
  unfold upd at h
  split at h
  · cases h
  · exact h
theorem pickL (xs : List V) {k : Int} (h0 : 0 ≤ k) (h1 : k < xs.length) : ∃ v, v ∈ xs ∧ atI xs k = some v := by
  obtain ⟨j, rfl⟩ : ∃ j : Nat, k = j := ⟨k.toNat, by omega⟩
  have hj : j < xs.length := by omega
  exact ⟨xs[j], List.getElem_mem hj, atI_nat (List.getElem?_eq_getElem hj)⟩
theorem pickK (xs : List V) {k : Int} (h0 : 0 ≤ k) (h1 : k < xs.length) : ∃ v, xs[k.toNat]? = some v ∧ atI xs k = some v := by
  obtain ⟨j, rfl⟩ : ∃ j : Nat, k = j := ⟨k.toNat, by omega⟩
  have hj : j < xs.length := by omega
  exact ⟨xs[j], List.getElem?_eq_getElem hj, atI_nat (List.getElem?_eq_getElem hj)⟩
theorem boxAway {H : Hp} {b D : Addr} {o : HO} (h : BoxAt H b) (n : D ≠ b) : BoxAt (upd H D o) b := by
  obtain ⟨x, y, z, h1, h2, h3, h4⟩ := h
  refine ⟨x, y, z, h1, h2, h3, ?_⟩
  rw [upd_ne n.symm]
  exact h4
theorem boxSame {b : Addr} {H H' : Hp} (h : BoxAt H b) (s : Same H H') : BoxAt H' b := by
  obtain ⟨x, y, z, h1, h2, h3, h4⟩ := h
  exact ⟨x, y, z, h1, h2, h3, s _ _ h4⟩
theorem same_kp {b : Addr} {H H' : Hp} (s : Same H H') : Kp b H H' := fun c o _ z => s c o z
theorem same_keep {H H' H'' : Hp} {b : Addr} (s : Same H H') (n : H' b = none) (k : ∀ c o, c ≠ b → H' c = some o → H'' c = some o) : Same H H'' := fun c o z =>
  k c o (ne_of_none (s c o z) n) (s c o z)
/-- new in H, where the box is b -/
def Nw (H : Hp) (b : Addr) : Addr → Prop := fun c => c = b ∨ ∃ o, H c = some o
theorem nw_of {H H' : Hp} {b p : Addr} (k : Kp b H H') (n : H' p = none) (hb : p ≠ b) : ¬ Nw H b p := by
  rintro (h | ⟨o, h⟩)
  · exact hb h
  · rw [k p o hb h] at n
    cases n
theorem Kp.kq {b : Addr} {H H' : Hp} {N : Addr → Prop} (k : Kp b H H') (n : N b) : Kq N H H' := fun c o hc z => k c o (fun e => hc (e ▸ n)) z
theorem defAt {K : PySem.W.Frag} {mg : Str → Option Value} {x : Str} {st : Stmt} {ps : List Str} {f : Addr} {oc : Value} {od an : Option Addr} {osl : Array (Option Value)} {kV doc pm cdv ct : Value}
    (m : mg x = some (.ref f))
    (l : K.lookup f = some ⟨oc, od, .func (PySem.W.fnOf x x (defArgs st) (defBody st) (defScope st) .none kV doc pm an cdv ct), osl⟩)
    (c : PySem.W.codeIn K cdv x = true) (k : PySem.W.keepIn K (.ref f) = true)
    (b : ∀ (kV doc pm : Value) (an : Option Addr) (cdv ct : Value) (us : List Value), us.length = ps.length →
      bindArgs (PySem.W.fnOf x x (defArgs st) (defBody st) (defScope st) .none kV doc pm an cdv ct) ⟨us, []⟩ = pure (ps.zip us)) :
    DefAt K mg x st ps := by
  have F := fun_mk (st := st) l c k
  exact ⟨f, _, F, m, F.binds b⟩
end Gd
/-! An own error whose __init__ says super().__init__(a text), then keeps the one thing it is made of. -/
namespace Ge
open PySem PySem.W PySem.Calls PyProof.Rows PySem.HandSPX
def iA (p1 p2 : Pos) : Arguments := { posonlyargs := [], args := [{ arg := "self", annotation := none, pos := p1 }, { arg := "found", annotation := none, pos := p2 }], vararg := none, kwonlyargs := [], kw_defaults := [], kwarg := none, defaults := [] }
def iB (msg : Str) (kk : Nat) (p1 p2 p3 p4 p5 p6 q1 q2 q3 q4 : Pos) : List Stmt :=
  [.Expr (.Call (.Attribute (.Call (.Name "super" p1) [] [] p2) "__init__" p3) [.Constant (.str msg) kk p4] [] p5) p6,
   .Assign [.Attribute (.Name "self" q1) "found" q2] (.Name "found" q3) q4]
def iS : Scope := { kind := .function, names := [(PySem.Str.ofString "self", .local), (PySem.Str.ofString "found", .local), (PySem.Str.ofString "__class__", .free), (PySem.Str.ofString "super", .globalImplicit)], isGenerator := false, isCoroutine := false, more := [] }
/-- what the written part says of the class at C and of its __init__ at fI -/
structure ErrTxt (P : Program) (K : Frag) (C fI : Addr) (qn msg : Str) : Prop where
  cls : ∃ nm q N bs bm sn sub ab col dd k0 k1 k2 k3 k5, K.lookup C = some (excClassObj nm q C N bs bm true sn sub ab col dd k0 k1 k2 k3 k5 "ValueError.__new__") ∧ refsVE bm = true
  sa : findIn K (.ref C) "__setattr__" = some (some (.builtin "object.__setattr__"))
  ga : findIn K (.ref C) "__getattribute__" = some (some (.builtin "BaseException.__getattribute__"))
  gg : findIn K (.ref C) "__getattr__" = some none
  noN : findIn K (.ref C) "found" = some none
  iC : findIn K (.ref C) "__init__" = some (some (.ref fI))
  tC : typeIn K (.ref fI) = some (.type "function")
  kC : keepIn K (.ref C) = true
  exC : subIn K (.ref C) (.type "BaseException") = some true
  veC : subIn K (.ref C) (.type "ValueError") = some true
  tyC : typeIn K (.ref C) = some (.type "type")
  hdC : hasDictIn K C = true
  sub : mroIn K C (.ref C) = some true
  sup : ks_superIn K C C "__init__" = some (some (.builtin "ValueError.__init__"))
  op : nsIn K cStatics "thirdparty.any" = some none
  zs : nsIn K mainGlobals "super" = some none
  htop : (P.main.scope.names.lookup ("super" : Str)).isSome = false
  fn : ∃ (oc : Value) (od : Option Addr) (doc pm : Value) (an : Option Addr) (cda cc : Addr) (ct : Value) (osl : Array (Option Value)) (kk : Nat) (p1 p2 p3 p4 p5 p6 q1 q2 q3 q4 r1 r2 : Pos) (ccl cl : Value) (cdd cld : Option Addr) (vs : Array Value) (ccs csl : Array (Option Value)) (file : Str) (tf : Tok),
    K.lookup fI = some ⟨oc, od, .func (ksFn "__init__" qn (iA r1 r2) (iB msg kk p1 p2 p3 p4 p5 p6 q1 q2 q3 q4) iS .none .none doc pm an (.ref cda) ct cc), osl⟩ ∧ codeIn K (.ref cda) qn = true ∧
    K.lookup cda = some ⟨ccl, cdd, .fields vs, ccs⟩ ∧ vs[2]? = some (.str file tf) ∧ ((P.main.file : Str) == file) = true ∧
    K.lookup cc = some ⟨cl, cld, .cell (some (.ref C)), csl⟩ ∧ (p3.endLine == p5.line) = true
/-- what __init__ leaves of a fresh exception at x -/
structure InitEnd (h h' : Heap) (x C dx t1 : Addr) (v : Value) : Prop where
  keep : ∀ b o, b ≠ x → h.get? b = some o → h'.get? b = some o
  obj : h'.get? x = some { cls := .ref C, dict := some dx, data := .fields #[.ref t1, .none, .none, .none, .bool false, .none] }
  dbig : h.objs.size ≤ dx
  dne : dx ≠ x
  ns : h'.Ns1 dx (fun y => if y = "found" then some v else none)
theorem iS_nocell : ∀ y ∈ iS.names, y.2 ≠ .cell := by decide +kernel
theorem iS_loc (x v : Value) : ∀ y ∈ ([(PySem.Str.ofString "self", x), (PySem.Str.ofString "found", v)] : List (Str × Value)), iS.names.lookup y.1 = some .local := by
  intro y hy
  simp only [List.mem_cons, List.not_mem_nil, or_false] at hy
  rcases hy with rfl | rfl
  · exact (by decide +kernel : iS.names.lookup (PySem.Str.ofString "self") = some .local)
  · exact (by decide +kernel : iS.names.lookup (PySem.Str.ofString "found") = some .local)
/-- o.name(..) in a body that is known to run, the call's line told -/
theorem at_method {M : Model} {A : Around} {c : Code} {E : Value → Shared → Prop} {s : Shared} {env : Env} {o : Expr} {name : Str} {apos pos : Pos} {args : List Expr} {Q : Value → Shared → Prop}
    (hl : (apos.endLine == pos.line) = true) (hf : methodCallForm (args.length + ([] : List Keyword).length) (backTo pos (starEach args env)) (backToKw pos (keywordEach [] env)) = true)
    (h : _root_.PySem.wpAt M A c (attributeBase o name env (eval o env)) (fun ov s₁ => wpAny M A (getMethod ov name (do return (← importBound o env).getD true))
      (fun fx s₂ => wpAny M A (callWith pos fx.1 fx.2 (backTo pos (starEach args env)) (backToKw pos (keywordEach [] env))) Q E s₂) E s₁) E s) :
    _root_.PySem.wpAt M A c (eval (.Call (.Attribute o name apos) args [] pos) env) Q E s := by
  rw [arm_eval_Call]
  apply _root_.PySem.wpAt_bind
  apply _root_.PySem.wpAt_mono h
  · intro ov s₁ h₁
    apply _root_.PySem.wpAt_of_wpAny
    apply wpAny_bind
    apply wpAny_standAt
    have hp : methodCallPos true o env apos pos = pure pos := by
      unfold methodCallPos
      simp [hl]
    unfold methodCall
    rw [hf]
    apply wpAny_bind
    apply wpAny_holding
    apply wpAny_mono h₁
    · intro fx s₂ h₂
      exact wpAny_bind (wpAny_of_eq hp h₂)
    · intro _ _ z
      exact z
  · intro _ _ z
    exact z
section
variable {prog : Program} {w : World} {A : Around} {E : Value → Shared → Prop} {R : Result → Shared → Prop} {s : Shared} {K : Frag} {mg mb : Str → Option Value} {C fI : Addr} {qn msg : Str}
theorem sup_call {h : Heap} {g : Array GenState} {d : Drawn} {t : Nat} {os : OsState} {u e t0 : Addr} {one : Value} {Q : Value → Shared → Prop}
    {nm q : Str} {N : Addr} {bs bm sub : List Value} {sn : List Str} {ab : Bool} {col : Option Bool} {dd : Option Addr} {k0 k1 k2 k3 k5 : Option Value}
    (hC : h.get? C = some (excClassObj nm q C N bs bm true sn sub ab col dd k0 k1 k2 k3 k5 "ValueError.__new__")) (he : h.get? e = some (excO C t0)) (hu : h.get? u = some (kxs_mw "ValueError.__init__" e))
    (hq : ∀ h' t1, (∀ b o, b ≠ e → h.get? b = some o → h'.get? b = some o) → h'.get? e = some (excO C t1) → Q .none ⟨h', g, d, t, os⟩) :
    wpAny (model prog w) A (call (.ref u) [one]) Q E ⟨h, g, d, t, os⟩ := by
  refine wpAny_call (codeAny_of_tree (show wpAny _ (Around.in1 _) (callAny (.ref u) ⟨[one], []⟩) _ _ _ from ?_))
  have e1 : (Value.type "method-wrapper" == Value.type "method" || Value.type "method-wrapper" == Value.type "builtin_function_or_method" || Value.type "method-wrapper" == Value.type "method-wrapper") = true := by decide
  simp only [callAny]
  refine wpAny_bind (m := load u) (wpAny_load hu ?_)
  simp only [kxs_mw, e1, if_true]
  refine (KFB.if_so (by decide) (wpAny_bind (check_bound_init F.excBase_ValueError.toExcCallFacts hC he rfl ?_)))
  refine (wpAny_bind (wpAny_pure (wpAny_pure (And.intro (plainId_quiet F.excBase_ValueError.init.plain _) (codeAny_builtin F.excBase_ValueError.initEntry ?_)))))
  have lz : [one].length ≤ sizeLine := by
    rw [sizeLine_eq]
    exact (by decide : 1 ≤ 16777216)
  exact exc_init_tree (cls := .ref C) (t0 := t0) (dv := none) (c2 := .none) (c3 := .none) (b4 := .bool false) he lz (fun h₄ k₄ hx₄ _ => hq h₄ _ k₄ hx₄)
theorem err_init (T : ErrTxt prog K C fI qn msg) {x t0 : Addr} {v : Value} (X : K.In s.heap) (lim : s.heap.NoLimit) (gl : s.heap.Ns mainGlobals mg) (bl : s.heap.Ns builtinsNs mb)
    (bb : ∀ x : Str, x ≠ "__name__" → mb x = bootBuiltins x) (hx : s.heap.get? x = some (excO C t0)) (hnx : K.lookup x = none) (room : A.depth < recursionLimit)
    (hq : ∀ h' tk dx t1, InitEnd s.heap h' x C dx t1 v → R (.ok (.ret .none)) { s with heap := h', toks := tk }) :
    codeAny (model prog w) A (.call (.ref fI) ⟨[.ref x, v], []⟩) R s := by
  obtain ⟨oc, od, doc, pm, an, cda, cc, ct, osl, kk, p1, p2, p3, p4, p5, p6, q1, q2, q3, q4, r1, r2, ccl, cl, cdd, cld, vs, ccs, csl, file, tf, ho, hcd, hcode, hvs, hfile, hcell, hline⟩ := T.fn
  obtain ⟨nm, q, N, bs, bm, sn, sub, ab, col, dd, k0, k1, k2, k3, k5, hC, hbm⟩ := T.cls
  have hzs := mg_none_of X gl T.zs
  obtain ⟨hp, g, dr, tk, os⟩ := s
  refine ks_codeAny_call_defAt (binds := [("self", .ref x), ("found", v)]) room (X _ _ ho) rfl lim (codeRec_of X hcd) rfl (BindsTo.of_eq (by first | rfl | with_unfolding_all rfl)) iS_nocell (iS_loc _ _) (fun h₁ hns k₁ => ?_) rfl rfl rfl
  have X₁ : K.In h₁ := X.keeps k₁
  have hx₁ := k₁ _ _ hx
  refine ks_wpAt_execs_cons (ks_wpAt_Expr_any (at_method hline (by first | rfl | with_unfolding_all rfl) ?_))
  refine ks_wpAt_super_base rfl rfl (by decide) rfl (X₁ _ _ ho) rfl rfl rfl (X₁ _ _ hcode) rfl hvs hfile T.htop ?_
  refine ks_loadName_global rfl rfl (loadGlobal_builtin (gl.keeps k₁) hzs (bl.keeps k₁) ((bb _ (by decide +kernel)).trans (by decide +kernel : bootBuiltins "super" = some (.type "super"))) ⟨rfl, ?_⟩)
  refine wpAny_loadName_free rfl rfl rfl ⟨_, X₁ _ _ hcell, rfl⟩ ?_
  refine wpAny_loadName_local rfl rfl hns (v := .ref x) (by first | rfl | with_unfolding_all rfl) ?_
  refine ks_wpAny_isType_cls (X₁ _ _ hC) rfl ⟨rfl, ?_⟩
  refine ks_wpAny_call_super (X₁ _ _ hC) rfl hx₁ rfl (fun c e => nomatch e) (looks_mroIn X₁ T.sub) (fun h₂ e₂ k₂ => ?_)
  have X₂ : K.In h₂ := X₁.keeps k₂
  have hx₂ := k₂ _ _ hx₁
  have I₂ : InstAt h₂ x (excO C t0) C none := ⟨hx₂, rfl, rfl, trivial⟩
  have hcl : clsIn K C = some { name := nm, bases := bs, mro := .ref C :: bm, ns := N, qualname := q, hasDict := true, slotNames := sn, subclasses := sub, abstract := ab, collection := col, hasDel := false } := by
    unfold clsIn
    rw [hC]
    all_goals rfl
  have hm := T.sup
  unfold ks_superIn at hm
  rw [hcl] at hm
  have hI : Looks (model prog w) h₂ (isInstance (.ref x) (.type "ValueError")) true := I₂.type.andThen (looks_subIn X₂ T.veC)
  have hxC : x ≠ C := fun z => by
    rw [z, hC] at hnx
    cases hnx
  refine kxs_getMethod kxs_ValueError e₂ (looks_opaque X₂ T.op) (l₀ := .ref C :: bm) ?_ rfl X₂ hm hI hxC (by decide +kernel) ?_
  · exact fun A Q E s k q => wpAny_bind ((looks_clsIn X₂ hcl) A _ E s k (wpAny_pure q))
  have hu : (h₂.push (kxs_mw "ValueError.__init__" x)).get? h₂.objs.size = some (kxs_mw "ValueError.__init__" x) := Heap.get?_push_at rfl rfl
  have k₃ : ∀ b o, h₂.get? b = some o → (h₂.push (kxs_mw "ValueError.__init__" x)).get? b = some o := fun b o e => Heap.get?_push_of_some _ e
  have X₃ : K.In (h₂.push (kxs_mw "ValueError.__init__" x)) := X₂.keeps k₃
  have hx₃ := k₃ _ _ hx₂
  refine kxs_callWith (i := "ValueError.__init__") (x := x) (by rfl) (evalArgs_plain ?_)
  refine Calls.spliced_cons (Calls.Constant_str (k := kk) (pos := p4) ?_)
  refine Calls.spliced_nil ⟨hu, ?_⟩
  refine sup_call (X₃ _ _ hC) hx₃ hu (fun h₄ t1 k₄ hx₄ => ?_)
  -- self.found = found
  have X₄ : K.In h₄ := fun a o e => k₄ a o (fun z => by rw [z, hnx] at e; cases e) (X₃ a o e)
  have hLx : hp.objs.size ≠ x := Nat.ne_of_gt (Heap.lt_size hx)
  have hn₄ := hns
  obtain ⟨oL, es, ep, eL, rL⟩ := hn₄
  have hn₄ : h₄.Ns hp.objs.size _ := ⟨oL, es, ep, k₄ _ _ hLx (k₃ _ _ (k₂ _ _ eL)), rL⟩
  have big : hp.objs.size < h₄.objs.size := hn₄.lt
  show _root_.PySem.wpAt _ _ _ (execs _ _) _ _ _
  refine _root_.PySem.wpAt_of_wpAny (wpAny_execs_cons (plainObj_wpAny_Assign_Attribute ?_))
  refine wpAny_Name (wpAny_loadName_local rfl rfl hn₄ (v := v) (by first | rfl | with_unfolding_all rfl) ?_) (by decide)
  refine wpAny_Name (wpAny_loadName_local rfl rfl hn₄ (v := .ref x) (by first | rfl | with_unfolding_all rfl) ?_) (by decide)
  refine set_plain X₄ (ox := excO C t1) (od := none) ⟨hx₄, rfl, rfl, trivial⟩ T.sa ?_
  refine HandSPX.exc_osa X₄ hx₄ hcl (show refsVE (.ref C :: bm) = true from hbm) rfl T.noN (fun h₅ tk₅ dx k₅ dn dne hx₅ hn₅ => ?_)
  show wpAny _ _ (execs _ _) _ _ _
  exact wpAny_execs_nil (hq h₅ tk₅ dx t1 ⟨fun b o hb e => k₅ b o hb (k₄ b o hb (k₃ b o (k₂ b o (k₁ b o e)))), hx₅, Nat.le_trans (Nat.le_of_lt big) dn, dne, hn₅⟩)
/-- an error that was made: its own dict d holds the thing -/
structure OwnMade (h h' : Heap) (e C d : Addr) (v : Value) : Prop where
  keep : ∀ b o, h.get? b = some o → h'.get? b = some o
  new : h.objs.size ≤ e
  obj : ∃ oe vs, h'.get? e = some oe ∧ oe.cls = .ref C ∧ oe.dict = some d ∧ oe.data = .fields vs ∧ vs[1]? = some .none
  dbig : h.objs.size ≤ d
  dne : d ≠ e
  ns : h'.Ns1 d (fun y => if y = "found" then some v else none)
theorem one_size (v : Value) : [v].length ≤ sizeLine := by
  rw [sizeLine_eq]
  exact (by decide : 1 ≤ 16777216)
theorem err_made (T : ErrTxt prog K C fI qn msg) {v : Value} (X : K.In s.heap) (lim : s.heap.NoLimit) (gl : s.heap.Ns mainGlobals mg) (bl : s.heap.Ns builtinsNs mb)
    (bb : ∀ x : Str, x ≠ "__name__" → mb x = bootBuiltins x) (room : A.depth + 1 < recursionLimit)
    (hq : ∀ h' tk e d, OwnMade s.heap h' e C d v → R (.ok (.ret (.ref e))) { s with heap := h', toks := tk }) :
    codeAny (model prog w) A (.call (.ref C) ⟨[v], []⟩) R s := by
  obtain ⟨nm, q, N, bs, bm, sn, sub, ab, col, dd, k0, k1, k2, k3, k5, hC, hbm⟩ := T.cls
  obtain ⟨hp, g, dr, tk, os⟩ := s
  have k : ∀ b o, hp.get? b = some o → ((hp.push (kdv_tup [v])).push (excO C hp.objs.size)).get? b = some o := fun b o e => Heap.get?_push_of_some _ (Heap.get?_push_of_some _ e)
  have hget : ((hp.push (kdv_tup [v])).push (excO C hp.objs.size)).get? (hp.objs.size + 1) = some (excO C hp.objs.size) := by heap_get
  have hnx : K.lookup (hp.objs.size + 1) = none := by
    cases e : K.lookup (hp.objs.size + 1) with
    | none => rfl
    | some o =>
      have z : hp.get? (hp.objs.size + 1) = some o := X _ _ e
      exact absurd (Nat.lt_of_succ_lt (Heap.lt_size z)) (Nat.lt_irrefl _)
  refine HandSPX.call_own F.excBase_ValueError (fun X => refsVE_contains X bm hbm) (X _ _ hC) (looks_findIn X T.iC) (fun self => bind_fn X self T.tC) (one_size v) ?_
  refine err_init (s := ⟨(hp.push (kdv_tup [v])).push (excO C hp.objs.size), g, dr, tk, os⟩) T (X.keeps k) (lim.keeps k) (gl.keeps k) (bl.keeps k) bb hget hnx ?_ fun h' tk' dx t1 ⟨k', hx, dn, dne, hns⟩ => ?_
  · show A.depth + 1 < recursionLimit
    exact room
  · have old : ∀ b o, hp.get? b = some o → h'.get? b = some o := fun b o e => k' b o (Nat.ne_of_lt (Nat.lt_succ_of_lt (Heap.lt_size e))) (k b o e)
    have z : hp.objs.size + 1 + 1 ≤ dx := by
      first
        | (simpa only [Heap.size_push] using dn)
        | exact dn
        | (have q := dn; rw [Heap.size_push, Heap.size_push] at q; exact q)
    exact ⟨rfl, hq h' tk' (hp.objs.size + 1) dx ⟨old, Nat.le_succ _, ⟨_, _, hx, rfl, rfl, rfl, rfl⟩, Nat.le_trans (Nat.le_trans (Nat.le_succ _) (Nat.le_succ _)) z, dne, hns⟩⟩
end
end Ge
namespace Ge
open PySem PySem.Spec PyProof.Rows L2
theorem relO_f {v : V} {v' : Value} (r : RelV v v') (f : Str) : RelO (List.lookup f [(("found" : Str), v)]) (if f = "found" then some v' else none) := by
  by_cases hw : f = "found"
  · subst hw
    rw [if_pos rfl]
    have q : List.lookup ("found" : Str) [(("found" : Str), v)] = some v := by simp [List.lookup]
    rw [q]
    exact r
  · rw [if_neg hw]
    have qw : (f == ("found" : Str)) = false := by simpa using hw
    have q2 : List.lookup f [(("found" : Str), v)] = none := by simp [List.lookup, qw]
    rw [q2]
    trivial
section
variable {X : Cx} {C fI : Addr} {qn msg cn : Str}
/-- E(e) -/
def tMkE (C : Addr) (ta : TA) : L2.St → Hp → XK → Prop := fun σ H Q => ta σ H fun vs H1 => ∃ v, vs = [v] ∧ ∀ d, H1 d = none → Q (.ref C) (some d) (upd H1 d (.xd [(("found" : Str), v)]))
theorem pmk_err {a : Expr} {ta : TA} {p pos : Pos} {k : Nat} (T : ErrTxt X.prog X.K C fI qn msg) (gC : X.mg cn = some (.ref C)) (hr : Room k X.A) (ha : PA X [a] ta) (hg : Gl X cn)
    (hdb : (cn == ("__debug__" : Str)) = false := by decide)
    (he : starEach (a :: []) X.env = (false, eval a X.env) :: starEach [] X.env := by rfl) (hpl : (backTo pos (starEach [] X.env)).any (·.1) = false := by rfl) :
    PMk X (.Call (.Name cn p) [a] [] pos) (tMkE C ta) := by
  intro pins s σ H Q I h
  apply wpAny_Call_Name_kw
  apply ld_glob I hg gC (hd := hdb)
  refine PySem.W.callWith_K (h₀ := X.base) I.ok.mod.kin T.kC (thn (ha.run pos pins s σ H _ I h) ?_) he hpl
  rintro us s1 ⟨vs, H1, I1, r1, v, ev, q1⟩
  subst ev
  refine ⟨I1.kIn, ?_⟩
  cases r1 with
  | cons rv rn =>
    rename_i v' us'
    cases rn
    show wpAny _ _ (call (.ref C) [v']) _ _ _
    have hlim := I1.nolimit
    have hgl := I1.mod.glob.keeps I1.bk
    obtain ⟨mb, hbl0, hbb⟩ := I1.mod.blt
    have hbl := hbl0.keeps I1.bk
    obtain ⟨hp, g, dr, tk, os⟩ := s1
    refine wpAny_call (err_made T I1.kIn hlim hgl hbl hbb (by have := hr.dp; omega) fun h' tk' e d M => ?_)
    show MkP X pins σ Q (.ref e) ⟨h', g, dr, tk', os⟩
    obtain ⟨oe, fv, hoe, hc, hd, hdat, h1⟩ := M.obj
    have hns := M.ns
    obtain ⟨G', g1, g2⟩ := restrict h' fun b => decide (b ≠ e)
    have gk : ∀ b, b ≠ e → G'.get? b = h'.get? b := fun b hb => g1 b (decide_eq_true hb)
    have ge : G'.get? e = none := g2 e (by simp)
    have old : ∀ b o, hp.get? b = some o → G'.get? b = some o := fun b o q => (gk b (Nat.ne_of_lt (Nat.lt_of_lt_of_le (Heap.lt_size q) M.new))).trans (M.keep b o q)
    have ob : ObjOk X.prog X.w (upd H1 d (.xd [(("found" : Str), v)])) G' d (.xd [(("found" : Str), v)]) :=
      ⟨_, hns.at (fun o q => (gk d M.dne).trans q), fun f => relO_f rv f⟩
    have J : Inv X pins σ (upd H1 d (.xd [(("found" : Str), v)])) ⟨G', g, dr, tk', os⟩ := I1.laid (t' := tk') old M.dbig ob
    refine ⟨e, oe, fv, ⟨G', g, dr, tk', os⟩, _, .ref C, some d, rfl, J, fun b o q => ?_, ge, hoe, ⟨hc, hd⟩, hdat, h1, ?_, rfl, I1.bare, raises_own T.exC T.tyC, q1 d (I1.hok.fresh M.dbig)⟩
    · by_cases hb : b = e
      · have q' : G'.get? b = some o := q
        rw [hb, ge] at q'
        cases q'
      · exact (gk b hb).symm.trans q
    · rw [upd_ne (Ne.symm M.dne)]
      exact I1.hok.fresh M.new
/-- raise E(e) -/
def tRaiseE (C : Addr) (W : WX) (ta : TA) : TS := fun _ σ H => tMkE C ta σ H fun cls d H' => W cls d σ H'
theorem ps_raiseE {a : Expr} {ta : TA} {W : WX} {p pos pos2 : Pos} {k : Nat} (hc : X.calm = true) (T : ErrTxt X.prog X.K C fI qn msg) (gC : X.mg cn = some (.ref C)) (hr : Room k X.A) (tk : Takes X W) (ha : PA X [a] ta) (hg : Gl X cn)
    (hdb : (cn == ("__debug__" : Str)) = false := by decide)
    (he : starEach (a :: []) X.env = (false, eval a X.env) :: starEach [] X.env := by rfl) (hpl : (backTo pos (starEach [] X.env)).any (·.1) = false := by rfl) :
    PS X (.Raise (some (.Call (.Name cn p) [a] [] pos)) none pos2) (tRaiseE C W ta) := ps_raise hc tk (pmk_err T gC hr ha hg hdb he hpl)
/-- e.found, e the exception that the suite holds (at a; its class cls, its dict d) -/
def tFound (C : Addr) (a : Addr) (cls : Value) (d : Option Addr) (te : TE) : TE := fun σ H Q => te σ H fun x H1 => x = .ref a ∧ cls = .ref C ∧ ∃ (dd : Addr) (v : V), d = some dd ∧ H1 dd = some (.xd [(("found" : Str), v)]) ∧ Q v H1
theorem pe_found {a : Addr} {oe : Obj} {cls : Value} {d : Option Addr} {pn : List (Addr × Obj)} {e : Expr} {te : TE} {pos : Pos} (T : ErrTxt X.prog X.K C fI qn msg) (hz : Zc cls d oe) (hf : ∃ vs, oe.data = .fields vs) (he : PE (X.suite a ((a, oe) :: pn)) e te)
    (hb : attributeBase e "found" X.env (eval e X.env) = eval e X.env := by rfl) :
    PE (X.suite a ((a, oe) :: pn)) (.Attribute e "found" pos) (tFound C a cls d te) := by
  constructor
  intro pins s σ H Q I h
  refine attr_of hb (thn (he.run pins s σ H _ I h) ?_)
  rintro u s1 ⟨x, H1, I1, rx, ex, ec, dd, v, ed, ea, q⟩
  subst ex
  obtain rfl : u = Value.ref a := rx
  subst ec
  subst ed
  have ha := (I1.pin (a, oe) (List.mem_append_left _ List.mem_cons_self)).1
  obtain ⟨vs, hd⟩ := hf
  have hx : ObjOk X.prog X.w H1 s1.heap dd (.xd [(("found" : Str), v)]) := I1.hok dd _ ea
  obtain ⟨mA, hns, hr⟩ := hx
  obtain ⟨od, ho, hl⟩ := lookIn_ns hns
  have l : List.lookup ("found" : Str) [(("found" : Str), v)] = some v := by simp [List.lookup]
  obtain ⟨u, hu, ru⟩ := RelO.some_of (v := v) (o := mA "found") (by rw [← l]; exact hr "found")
  have J : PySem.W.InstAt s1.heap a oe C (some od) := by
    refine ⟨ha, hz.1, ?_, by rw [hz.2]; exact ho⟩
    unfold PySem.W.notCls
    rw [hd]
    all_goals rfl
  exact HandSPX.exc_get I1.kIn J T.ga T.gg T.exC (PySem.W.findObj_own T.hdC T.noN rfl (by rw [hl, hu])) (handed_of ru) ⟨v, H1, I1.tok _, ru, q⟩
/-- what a class of errors must say so that isinstance asks it -/
structure IsTxt (K : PySem.W.Frag) (C : Addr) : Prop where
  ha : PySem.W.findIn K (.ref C) "__class__" = some (some (.builtin "object.__class__"))
  hn : PySem.W.specialIn K (.builtin "object.__class__") "__get__" = some (some (.builtin "getset_descriptor.__get__"))
  ht : PySem.W.takesIn K (.builtin "object.__class__") = some true
  hm : PySem.W.mroIn K C (.type "object") = some true
/-- isinstance(e, c), e the exception that the suite holds, with its own dict -/
def rIsF (K : PySem.W.Frag) (C a : Addr) (cls : Value) (d : Option Addr) : List V → Hp → VK → Prop := fun xs H Q => ∃ (c : V) (cv : Value) (b : Bool) (dd : Addr) (v : V), xs = [.ref a, c] ∧ cls = .ref C ∧ d = some dd ∧
  H dd = some (.xd [(("found" : Str), v)]) ∧ ClsV c cv ∧ PySem.W.kitOne K (.ref C) cv = some b ∧ Q (.bl b) H
theorem call_isF {a : Addr} {oe : Obj} {cls : Value} {d : Option Addr} {pn : List (Addr × Obj)} (T : ErrTxt X.prog X.K C fI qn msg) (S : IsTxt X.K C) (hz : Zc cls d oe) (hf : ∃ vs, oe.data = .fields vs) :
    CallR (X.suite a ((a, oe) :: pn)) (.builtin "isinstance") (rIsF X.K C a cls d) := by
  intro pins s σ H xs us Q I r h
  obtain ⟨c, cv, b, dd, v, rfl, rfl, rfl, ea, hcv, e, q⟩ := h
  obtain ⟨u1, u2, rfl, r1, r2⟩ := vals2 r
  cases (show u1 = Value.ref a from r1)
  have e2 := hcv.eq r2
  subst e2
  have ha := (I.pin (a, oe) (List.mem_append_left _ List.mem_cons_self)).1
  obtain ⟨vs, hd⟩ := hf
  have hx : ObjOk X.prog X.w H s.heap dd (.xd [(("found" : Str), v)]) := I.hok dd _ ea
  obtain ⟨mA, hns, _⟩ := hx
  obtain ⟨od, ho, _⟩ := lookIn_ns hns
  have J : PySem.W.InstAt s.heap a oe C (some od) := by
    refine ⟨ha, hz.1, ?_, by rw [hz.2]; exact ho⟩
    unfold PySem.W.notCls
    rw [hd]
    all_goals rfl
  have hcl : (PySem.W.clsIn X.K C).isSome = true := by
    obtain ⟨cd, hc, _⟩ := PySem.W.any_some T.hdC
    rw [hc]
    rfl
  exact PySem.W.kia_one (PySem.W.kitx_exc hcl T.ga T.gg T.exC S.ha S.hn S.ht S.hm) I.kIn J e (fun z => nomatch z) fun tk => ⟨.bl b, H, I.kept (t' := tk) fun _ _ z => z, rfl, q⟩
end
end Ge
/-! Defs that raise, their promise kept where no repr is under way. -/
namespace Gd
open PySem PySem.Spec PyProof.Rows L2
structure CalX (P : Program) (w : World) (K : PySem.W.Frag) (mg : Str → Option Value) (base : Heap) (k : Nat) (x : Str) (sp : Sp) : Prop where
  ex : ∃ (f : Addr) (fd : FuncData) (ps : List Str), FnG P w K mg base (L2.CX P w) k f fd ps sp ∧ mg x = some (.ref f) ∧
    PySem.W.keepIn K (.ref f) = true ∧ Binds K fd ps []
section
variable {P : Program} {w : World} {K : PySem.W.Frag} {mg : Str → Option Value} {base : Heap}
theorem okGX {x qual : Str} {st : Stmt} {f : Addr} {fd : FuncData} {N ps : List Str} {k : Nat} {sp : Sp}
    (F : Fun K x qual st f fd) (S : FnScope N ps (defScope st))
    (ar : ∀ vs H Q E, sp vs H Q E → vs.length = ps.length)
    (bd : ∀ (cdv : Value) (A : Around) (outer : List Env) (s : Shared) (H : Hp) (vs : List V) (Q : VK) (E : XK),
      A.guards = some [] → Room k (A.deeper (envOfC qual (defScope st) s.heap.objs.size f cdv)) → sp vs H Q E →
      ∃ t, PSs (cxOf (L2.CX P w) P w K mg base N qual (defScope st) f cdv A outer s H E) (defBody st) t ∧
        t { nx := fun _ H' => Q .non H', rt := Q } (start N vs) H) :
    FnG P w K mg base (L2.CX P w) (k + 1) f fd ps sp := by
  obtain ⟨oc, od, kV, doc, pm, an, cdv, ct, osl, rfl, lk, cin⟩ := F.ex
  exact fnG_of lk cin S ar fun A outer s H vs Q E hG room prem => bd cdv A outer s H vs Q E hG room prem
theorem DefAt.calX {x : Str} {st : Stmt} {N ps : List Str} {k : Nat} {sp : Sp} (D : DefAt K mg x st ps) (S : FnScope N ps (defScope st))
    (ar : ∀ vs H Q E, sp vs H Q E → vs.length = ps.length)
    (bd : ∀ (f : Addr) (cdv : Value) (A : Around) (outer : List Env) (s : Shared) (H : Hp) (vs : List V) (Q : VK) (E : XK),
      A.guards = some [] → Room k (A.deeper (envOfC x (defScope st) s.heap.objs.size f cdv)) → sp vs H Q E →
      ∃ t, PSs (cxOf (L2.CX P w) P w K mg base N x (defScope st) f cdv A outer s H E) (defBody st) t ∧
        t { nx := fun _ H' => Q .non H', rt := Q } (start N vs) H) : CalX P w K mg base (k + 1) x sp := by
  obtain ⟨f, fd, F, m, b⟩ := D.ex
  exact ⟨f, fd, ps, okGX F S ar (bd f), m, F.kp, b⟩
end
section
variable {X : Cx} {k : Nat} {sp : Sp} {x : Str} {p pos : Pos} {e : Expr} {es : List Expr} {t : TA} {E : L2.St → XK}
theorem enterX {CX : CXT} {f : Addr} {fd : FuncData} {ps : List Str} {pins : List (Addr × Obj)} {σ : L2.St} {H : Hp} {s : Shared} {Q : VK} {us : List Value} {vs : List V} (F : FnG X.prog X.w X.K X.mg X.base CX k f fd ps sp) (hG : X.A.guards = some []) (hr : Room k X.A) (hb : Binds X.K fd ps []) (hx : PassesAt CX X σ (E σ))
    (I : Inv X pins σ H s) (r : Vals vs us) (h : sp vs H Q (E σ)) : wpAny (model X.prog X.w) X.A (call (.ref f) us) (EP X pins σ Q) X.xe s := by
  have hl : us.length = ps.length := r.length ▸ F.arity _ _ _ _ h
  have b := hb s us I.kIn (by rw [List.append_nil]; exact hl)
  rw [List.append_nil] at b
  apply wpAny_call
  apply codeAny_mono (F.go X.A X.stack s H ⟨us, []⟩ us vs Q (E σ) hG hr I.env0 b r h)
  intro r s' hq
  match r, hq with
  | .error e, hq => exact hx pins H s e s' I hq
  | .ok (.ret u), hq => exact I.after hq
  | .ok .next, hq => exact hq.elim
  | .ok .brk, hq => exact hq.elim
  | .ok .cont, hq => exact hq.elim
/-- f(e, ..) of a def that may raise, its promise kept where no repr is under way -/
theorem pe_gx {W : WX} (c : CalX X.prog X.w X.K X.mg X.base k x sp) (hG : X.A.guards = some []) (hr : Room k X.A) (hg : Gl X x) (tk : Takes X W)
    (ha : PA X (e :: es) t) (hdb : (x == ("__debug__" : Str)) = false := by decide)
    (he : starEach (e :: es) X.env = (false, eval e X.env) :: starEach es X.env := by rfl)
    (hpl : (backTo pos (starEach es X.env)).any (·.1) = false := by rfl) :
    PE X (.Call (.Name x p) (e :: es) [] pos) (tCallS sp (WE W) t) := by
  obtain ⟨f, fd, ps, F, m, kp, b⟩ := c.ex
  constructor
  intro pins s σ H Q J prem
  have arg := ha.run pos pins s σ H _ J prem
  apply wpAny_Call_Name_kw
  apply ld_glob J hg m (hd := hdb)
  apply PySem.W.callWith_K (h₀ := X.base) J.ok.mod.kin kp (he := he) (hplain := hpl)
  apply thn arg
  rintro us s1 ⟨vs, H1, J1, rel, q⟩
  exact ⟨J1.kIn, enterX (E := WE W) F hG hr b (passAt tk σ) J1 rel q⟩
/-- the same, where it raises nothing -/
theorem pe_gN (c : CalX X.prog X.w X.K X.mg X.base k x sp) (hG : X.A.guards = some []) (hr : Room k X.A) (hg : Gl X x)
    (ha : PA X (e :: es) t) (hdb : (x == ("__debug__" : Str)) = false := by decide)
    (he : starEach (e :: es) X.env = (false, eval e X.env) :: starEach es X.env := by rfl)
    (hpl : (backTo pos (starEach es X.env)).any (·.1) = false := by rfl) :
    PE X (.Call (.Name x p) (e :: es) [] pos) (tCall sp [] E0 t) := by
  obtain ⟨f, fd, ps, F, m, kp, b⟩ := c.ex
  exact pe_callG F hG hr hg m kp b .nil passL ha hdb he hpl
end
end Gd
/-! A method whose body begins with a call of super().m(..), an own class's, the method that it finds a def that keeps its promise. -/
namespace Gs
open PySem PySem.Spec PyProof.Rows L2 Gd NdefX
open PySem.Calls
open PySem.W (Frag ksFn ks_superIn ks_loadName_global looks_mroIn looks_opaque looks_clsIn clsIn)
/-- what the written part says of the def F at f, of class D, and of super().m in it, g above D as seen from C -/
structure SupTxt (P : Program) (K : Frag) (C D f g cc : Addr) (F : NF) (m : Str) : Prop where
  fn : ∃ (oc : Value) (od : Option Addr) (doc pm : Value) (an : Option Addr) (ct : Value) (osl : Array (Option Value)),
    K.lookup f = some ⟨oc, od, .func (ksFn F.name F.qual F.params F.body F.scope .none .none doc pm an (.ref F.c) ct cc), osl⟩
  cl : F.cl = [(("__class__" : Str), cc)]
  code : PySem.W.codeIn K (.ref F.c) F.qual = true
  cod : ∃ (ccl : Value) (cdd : Option Addr) (vs : Array Value) (ccs : Array (Option Value)) (file : Str) (tf : Tok),
    K.lookup F.c = some ⟨ccl, cdd, .fields vs, ccs⟩ ∧ vs[2]? = some (.str file tf) ∧ ((P.main.file : Str) == file) = true
  cell : ∃ (cv : Value) (cd : Option Addr) (csl : Array (Option Value)), K.lookup cc = some ⟨cv, cd, .cell (some (.ref D)), csl⟩
  isD : ∃ cd, clsIn K D = some cd
  sub : PySem.W.mroIn K C (.ref D) = some true
  sup : ks_superIn K C D m = some (some (.ref g))
  ty : PySem.W.typeIn K (.ref g) = some (.type "function")
  fg : PySem.W.fnIn K g = true
  op : PySem.W.nsIn K cStatics "thirdparty.any" = some none
  zs : PySem.W.nsIn K mainGlobals "super" = some none
  htop : (P.main.scope.names.lookup ("super" : Str)).isSome = false
  hm : (m == ("__class__" : Str)) = false
  hks : F.scope.names.lookup ("super" : Str) = some .globalImplicit
  hkc : F.scope.names.lookup ("__class__" : Str) = some .free
  hself : F.scope.names.lookup ("self" : Str) = some .local
  arg : ∃ ar, (F.params.posonlyargs ++ F.params.args).head? = some ar ∧ ar.arg = "self"
section
variable {CX : CXT} {P : Program} {w : World} {K : Frag} {mg : Str → Option Value} {base : Heap} {N : List Str} {F : NF} {f g C D cc : Addr} {A : Around} {outer : List Env} {s0 : Shared} {H0 : Hp} {E0 : XK} {m : Str}
theorem at_super {body : List Stmt} {p0 p1 apos pos : Pos} {args : List Expr} {s : Shared} {pins : List (Addr × Obj)} {σ : L2.St} {H : Hp} {x dx : Addr} {fs : List (Str × V)} {Q : Value → Shared → Prop}
    (T : SupTxt P K C D f g cc F m) (hline : (apos.endLine == pos.line) = true)
    (hform : methodCallForm (args.length + ([] : List Keyword).length) (backTo pos (starEach args (envF F f s0.heap.objs.size))) (backToKw pos (keywordEach [] (envF F f s0.heap.objs.size))) = true)
    (I : Inv (ncx CX P w K mg base N F f A outer s0 H0 E0) pins σ H s) (hN : N[0]? = some ("self" : Str)) (hσ : σ[0]? = some (some (.ref x))) (hx : H x = some (.ins C dx fs))
    (h : ∀ (q : Addr) (s' : Shared), Inv (ncx CX P w K mg base N F f A outer s0 H0 E0) (pins ++ [(q, PySem.W.methodObj (.ref g) (.ref x))]) σ H s' →
      wpAny (model P w) (ncx CX P w K mg base N F f A outer s0 H0 E0).A (callWith pos (.ref q) [] (backTo pos (starEach args (envF F f s0.heap.objs.size))) (backToKw pos (keywordEach [] (envF F f s0.heap.objs.size)))) Q (ncx CX P w K mg base N F f A outer s0 H0 E0).xe s') :
    _root_.PySem.wpAt (model P w) (ncx CX P w K mg base N F f A outer s0 H0 E0).A (.func body (envF F f s0.heap.objs.size))
      (eval (.Call (.Attribute (.Call (.Name "super" p0) [] [] p1) m apos) args [] pos) (envF F f s0.heap.objs.size)) Q (ncx CX P w K mg base N F f A outer s0 H0 E0).xe s := by
  obtain ⟨oc, od, doc, pm, an, ct, osl, hf⟩ := T.fn
  obtain ⟨ccl, cdd, vs, ccs, file, tf, hcode, hvs, hfile⟩ := T.cod
  obtain ⟨cv, cd0, csl, hcell⟩ := T.cell
  obtain ⟨ar, harg, hself⟩ := T.arg
  obtain ⟨cdD, hD⟩ := T.isD
  have X := I.kIn
  obtain ⟨mb, hbl0, hbb⟩ := I.mod.blt
  have hgl := I.mod.glob.keeps I.bk
  have hbl := hbl0.keeps I.bk
  have hzs := PySem.W.mg_none_of I.mod.kin I.mod.glob T.zs
  obtain ⟨mA, O, _⟩ := ins_get I.hok hx
  obtain ⟨ml, hns, look⟩ := I.loc
  refine Ge.at_method hline hform ?_
  refine ks_wpAt_super_base T.hks T.hkc T.hm rfl (X _ _ hf) rfl harg rfl (X _ _ hcode) rfl hvs hfile T.htop ?_
  refine ks_loadName_global I.ok.kind T.hks (loadGlobal_builtin hgl hzs hbl ((hbb _ (by decide +kernel)).trans (by decide +kernel : bootBuiltins "super" = some (.type "super"))) ⟨rfl, ?_⟩)
  refine wpAny_loadName_free I.ok.kind T.hkc (by show F.cl.lookup _ = _; rw [T.cl]; rfl) ⟨_, X _ _ hcell, rfl⟩ ?_
  have eS : (ncx CX P w K mg base N F f A outer s0 H0 E0).env.scope.names.lookup ("self" : Str) = some .local := T.hself
  obtain ⟨u, ru, lk⟩ := look 0 ("self" : Str) (.ref x) hN hσ (.inl eS)
  have hml : ml ("self" : Str) = some (.ref x) := by
    rcases lk with ⟨_, z⟩ | ⟨z, _⟩
    · rw [z]
      exact congrArg some ru
    · rcases z with z | z
      · have : some NameKind.local = some NameKind.cell := eS.symm.trans z
        cases this
      · have : some NameKind.local = some NameKind.free := eS.symm.trans z
        cases this
  refine wpAny_loadName_local I.ok.kind (by rw [hself]; exact T.hself) hns (v := .ref x) (by rw [hself]; exact hml) ?_
  obtain ⟨oD, hD1, hD2⟩ : ∃ oD, s.heap.get? D = some oD ∧ oD.data = .cls cdD := by
    unfold clsIn at hD
    split at hD
    · rename_i c d cd' sl ho
      cases hD
      exact ⟨_, X _ _ ho, rfl⟩
    · cases hD
  refine ks_wpAny_isType_cls hD1 hD2 ⟨rfl, ?_⟩
  obtain ⟨hp, gs, dr, tk, os⟩ := s
  refine ks_wpAny_call_super hD1 hD2 O.obj rfl (fun c e => nomatch e) (looks_mroIn X T.sub) (fun h₂ e₂ k₂ => ?_)
  have J2 : Inv (ncx CX P w K mg base N F f A outer s0 H0 E0) pins σ H ⟨h₂, gs, dr, tk, os⟩ := I.kept (t' := tk) k₂
  have X₂ := J2.kIn
  have hsup := T.sup
  cases hc : clsIn K C with
  | none =>
    unfold ks_superIn at hsup
    rw [hc] at hsup
    cases hsup
  | some cd =>
    unfold ks_superIn at hsup
    rw [hc] at hsup
    obtain ⟨of, hof, hofc⟩ : ∃ of, h₂.get? g = some of ∧ of.cls = .type "function" := by
      have ht := T.ty
      have ht' : (K.lookup g).map (·.cls) = some (.type "function") := ht
      cases z : K.lookup g with
      | none =>
        rw [z] at ht'
        cases ht'
      | some of =>
        rw [z] at ht'
        exact ⟨of, X₂ _ _ z, Option.some.inj ht'⟩
    have hxC : x ≠ C := fun e => by
      unfold clsIn at hc
      cases z : K.lookup C with
      | none =>
        rw [z] at hc
        cases hc
      | some oC =>
        have hb := I.mod.kin _ _ z
        have := (I.bs C oC hb).2
        rw [← e, hx] at this
        cases this
    refine ks_wpAny_getMethod_super e₂ (looks_opaque X₂ T.op) (l₀ := cd.mro) ?_ rfl X₂ hsup hof hofc hxC T.hm ?_
    · exact fun A Q E s k q => wpAny_bind ((looks_clsIn X₂ hc) A _ E s k (wpAny_pure q))
    · have k₃ : ∀ b o, h₂.get? b = some o → (h₂.push (PySem.W.methodObj (.ref g) (.ref x))).get? b = some o := fun b o e => Heap.get?_push_of_some _ e
      have J3 : Inv (ncx CX P w K mg base N F f A outer s0 H0 E0) pins σ H ⟨h₂.push (PySem.W.methodObj (.ref g) (.ref x)), gs, dr, tk + 1, os⟩ := J2.kept (t' := tk + 1) k₃
      refine h h₂.objs.size _ (J3.pins_of fun p hp => ?_)
      rcases List.mem_append.mp hp with hp | hp
      · exact J3.pin p (List.mem_append_right _ hp)
      · rw [List.mem_singleton.mp hp]
        refine ⟨Heap.get?_push_at rfl rfl, J2.hok.fresh (Nat.le_refl _), Nat.ne_of_gt J2.lt, J2.nofs (Nat.le_refl _), fun v e => nomatch e⟩
/-- a call of the found method, its self bound -/
theorem run_bound {X : Cx} {CX2 : CXT} {k : Nat} {g q x : Addr} {fd : FuncData} {ps : List Str} {sp : Sp} {E : XK} {pins : List (Addr × Obj)} {σ : L2.St} {H : Hp} {s : Shared} {Q : VK} {us : List Value} {vs : List V}
    (G : FnOk X.prog X.w X.K X.mg X.base CX2 k g fd ps sp) (hr : Room k X.A) (hb : Binds X.K fd ps []) (hx : Passes CX2 X E) (I : Inv X pins σ H s)
    (hq : s.heap.get? q = some (PySem.W.methodObj (.ref g) (.ref x))) (r : Vals vs us) (h : sp (.ref x :: vs) H Q E) :
    wpAny (model X.prog X.w) X.A (call (.ref q) us) (EP X pins σ Q) X.xe s := by
  have r2 : Vals (.ref x :: vs) (.ref x :: us) := .cons rfl r
  have long : (Value.ref x :: us).length = ps.length := r2.length ▸ G.len _ _ _ _ h
  have b := hb s (.ref x :: us) I.kIn (by rw [List.append_nil]; exact long)
  rw [List.append_nil] at b
  apply wpAny_call
  apply ks_codeAny_call_bound hq
  apply codeAny_mono (G.run X.A X.stack s H ⟨.ref x :: us, []⟩ (.ref x :: us) (.ref x :: vs) Q E hr I.env0 b r2 h)
  intro r s' hs
  match r, hs with
  | .error _, hs => exact hx pins σ H s _ s' I hs
  | .ok (.ret _), hs => exact I.after hs
  | .ok .next, hs => exact hs.elim
  | .ok .brk, hs => exact hs.elim
  | .ok .cont, hs => exact hs.elim
/-- super().m(e, ..) as a value -/
theorem eval_super {CX2 : CXT} {k : Nat} {fd : FuncData} {ps : List Str} {sp : Sp} {E : XK} {body : List Stmt} {p0 p1 apos pos : Pos} {e : Expr} {es : List Expr} {ta : TA} {s : Shared} {pins : List (Addr × Obj)} {σ : L2.St} {H : Hp} {x dx : Addr} {fs : List (Str × V)} {Q : VK}
    (T : SupTxt P K C D f g cc F m) (hline : (apos.endLine == pos.line) = true)
    (hform : methodCallForm ((e :: es).length + ([] : List Keyword).length) (backTo pos (starEach (e :: es) (envF F f s0.heap.objs.size))) (backToKw pos (keywordEach [] (envF F f s0.heap.objs.size))) = true)
    (I : Inv (ncx CX P w K mg base N F f A outer s0 H0 E0) pins σ H s) (hN : N[0]? = some ("self" : Str)) (hσ : σ[0]? = some (some (.ref x))) (hx : H x = some (.ins C dx fs))
    (G : FnOk P w K mg base CX2 k g fd ps sp) (hr : Room k (ncx CX P w K mg base N F f A outer s0 H0 E0).A) (hb : Binds K fd ps []) (hp : Passes CX2 (ncx CX P w K mg base N F f A outer s0 H0 E0) E)
    (ha : PA (ncx CX P w K mg base N F f A outer s0 H0 E0) (e :: es) ta)
    (he : starEach (e :: es) (envF F f s0.heap.objs.size) = (false, eval e (envF F f s0.heap.objs.size)) :: starEach es (envF F f s0.heap.objs.size))
    (hpl : (backTo pos (starEach es (envF F f s0.heap.objs.size))).any (·.1) = false)
    (h : ta σ H fun vs H1 => sp (.ref x :: vs) H1 Q E) :
    _root_.PySem.wpAt (model P w) (ncx CX P w K mg base N F f A outer s0 H0 E0).A (.func body (envF F f s0.heap.objs.size))
      (eval (.Call (.Attribute (.Call (.Name "super" p0) [] [] p1) m apos) (e :: es) [] pos) (envF F f s0.heap.objs.size)) (EP (ncx CX P w K mg base N F f A outer s0 H0 E0) pins σ Q) (ncx CX P w K mg base N F f A outer s0 H0 E0).xe s := by
  refine at_super T hline hform I hN hσ hx fun q s' J => ?_
  have run := ha.run pos _ s' σ H _ J h
  rw [show starEach (e :: es) (envF F f s0.heap.objs.size) = _ from he]
  rw [show starEach (e :: es) (ncx CX P w K mg base N F f A outer s0 H0 E0).env = _ from he] at run
  apply PySem.W.callWith_of (P := PySem.W.MethP K q g (.ref x)) (by show ((false || (backTo pos (starEach es _)).any (·.1)) || false) = false; rw [hpl]; rfl) (PySem.W.keeps_M T.fg)
  apply evalArgs_plain
  apply thn run
  rintro us s1 ⟨vs, H1, J1, rel, q1⟩
  have hq := (J1.pin (q, PySem.W.methodObj (.ref g) (.ref x)) (List.mem_append_right _ (List.mem_append_right _ List.mem_cons_self))).1
  refine ⟨⟨hq, J1.kIn⟩, ?_⟩
  refine wpAny_mono (run_bound (pins := pins ++ [(q, PySem.W.methodObj (.ref g) (.ref x))]) G hr hb hp J1 hq rel q1) (fun v s2 hv => ?_) fun _ _ z => z
  obtain ⟨y, H2, J2, ry, qy⟩ := hv
  exact ⟨y, H2, J2.pins_of fun p hp => J2.pin p (List.mem_append_right _ (List.mem_append_left _ hp)), ry, qy⟩
theorem cells_at (T : SupTxt P K C D f g cc F m) (e0 : Env0 P w K mg base A outer s0 H0) : CellsAt F.cl ["__class__"] [some (.ref D)] s0.heap H0 := by
  obtain ⟨cv, cd0, csl, hcell⟩ := T.cell
  have hb := e0.mod.kin _ _ hcell
  obtain ⟨h1, h2⟩ := e0.bs _ _ hb
  have hl : ∀ y c, F.cl.lookup y = some c → y = ("__class__" : Str) ∧ c = cc := fun y c z => by
    rw [T.cl] at z
    by_cases e : y = ("__class__" : Str)
    · subst e
      refine ⟨rfl, ?_⟩
      simpa [List.lookup] using z.symm
    · have e2 : (y == ("__class__" : Str)) = false := by simpa using e
      simp [List.lookup, e2] at z
  refine ⟨rfl, fun y c z => ?_, fun a b c z1 z2 => (hl a c z1).1.trans (hl b c z2).1.symm, fun i y z => ?_⟩
  · rw [(hl y c z).2]
    exact ⟨h2, _, _, h1, rfl⟩
  · cases i with
    | zero =>
      cases (show some ("__class__" : Str) = some y from z)
      refine ⟨cc, by rw [T.cl]; simp [List.lookup], fun v ev => ?_⟩
      cases (show some (some (V.ref D)) = some (some v) from ev)
      exact ⟨.ref D, rfl, _, h1, rfl⟩
    | succ n => cases z
/-- a def y = super().m(e, ..); .. keeps its promise -/
theorem okS_set {CX2 : CXT} {k i : Nat} {fd2 : FuncData} {ps ps2 : List Str} {sp sp2 : Sp} {p0 p1 apos pos py pst : Pos} {e : Expr} {es : List Expr} {st : List Stmt} {y : Str}
    {oc : Value} {od : Option Addr} {doc pm : Value} {an : Option Addr} {ct : Value} {osl : Array (Option Value)}
    (T : SupTxt P K C D f g cc F m) (hf : K.lookup f = some ⟨oc, od, .func (ksFn F.name F.qual F.params F.body F.scope .none .none doc pm an (.ref F.c) ct cc), osl⟩)
    (S : NScope N ps ["__class__"] F.scope)
    (hbd : F.body = .Assign [.Name y py] (.Call (.Attribute (.Call (.Name "super" p0) [] [] p1) m apos) (e :: es) [] pos) pst :: st)
    (ar : ∀ vs H Q E, sp vs H Q E → vs.length = ps.length) (hN : N[0]? = some ("self" : Str)) (hi : N[i]? = some y) (hy : F.scope.names.lookup y = some .local)
    (G : FnOk P w K mg base CX2 k g fd2 ps2 sp2) (hb2 : Binds K fd2 ps2 [])
    (hline : (apos.endLine == pos.line) = true)
    (hform : ∀ L, methodCallForm ((e :: es).length + ([] : List Keyword).length) (backTo pos (starEach (e :: es) (envF F f L))) (backToKw pos (keywordEach [] (envF F f L))) = true)
    (he : ∀ L, starEach (e :: es) (envF F f L) = (false, eval e (envF F f L)) :: starEach es (envF F f L))
    (hpl : ∀ L, (backTo pos (starEach es (envF F f L))).any (·.1) = false)
    (hsw : ∀ L, swapsWith (.Call (.Attribute (.Call (.Name "super" p0) [] [] p1) m apos) (e :: es) [] pos) (some (.Name y py)) pst.line (envF F f L) = pure false)
    (bd : ∀ (A : Around) (outer : List Env) (s : Shared) (H : Hp) (vs : List V) (Q : VK) (E : XK), Room k (A.deeper (envF F f s.heap.objs.size)) → sp vs H Q E →
      ∃ (x dx : Addr) (fs : List (Str × V)) (E2 : XK) (ta : TA) (tr : TS), (startF N vs [some (.ref D)])[0]? = some (some (.ref x)) ∧ H x = some (.ins C dx fs) ∧ Passes CX2 (ncx CX P w K mg base N F f A outer s H E) E2 ∧
        PA (ncx CX P w K mg base N F f A outer s H E) (e :: es) ta ∧ PSs (ncx CX P w K mg base N F f A outer s H E) st tr ∧
        ta (startF N vs [some (.ref D)]) H fun ws H1 => sp2 (.ref x :: ws) H1 (fun v H2 => tr { nx := fun _ H' => Q .non H', rt := Q } ((startF N vs [some (.ref D)]).set i (some v)) H2) E2) :
    FnOk P w K mg base CX (k + 1) f (ksFn F.name F.qual F.params F.body F.scope .none .none doc pm an (.ref F.c) ct cc) ps sp := by
  refine ⟨ar, fun A outer s H args us vs Q E room env bind rel prem => ?_⟩
  have kin : K.In s.heap := env.mod.kin.keeps fun b o z => (env.bs b o z).1
  have nl : s.heap.NoLimit := env.mod.nolimit.keeps fun b o z => (env.bs b o z).1
  have long := ar _ _ _ _ prem
  obtain ⟨x, dx, fs, E2, ta, tr, hσ, hx, hp, ha, hr, q⟩ := bd A outer s H vs Q E (room.deeper _) prem
  have cells := cells_at T env
  have TT := T
  obtain ⟨nm, qual, params, body, scope, cl, c⟩ := F
  have hcl : cl = [(("__class__" : Str), cc)] := T.cl
  subst hcl
  refine ks_codeAny_call_defAt (binds := ps.zip us) room.depth (kin _ _ hf) rfl nl (PySem.W.codeRec_of kin T.code) rfl bind S.nocell (fun z hz => S.par z.1 (List.of_mem_zip hz).1) (fun h₁ hns k₁ => ?_) S.co S.gen S.kind
  have I : Inv (ncx CX P w K mg base N ⟨nm, qual, params, body, scope, [(("__class__" : Str), cc)], c⟩ f A outer s H E) [] (startF N vs [some (.ref D)]) H { s with heap := h₁, toks := s.toks + (ps.zip us).length } := inv_startN S room.hd env long rel cells hns k₁
  have hbd2 : body = .Assign [.Name y py] (.Call (.Attribute (.Call (.Name "super" p0) [] [] p1) m apos) (e :: es) [] pos) pst :: st := hbd
  subst hbd2
  generalize hF : (⟨nm, qual, params, .Assign [.Name y py] (.Call (.Attribute (.Call (.Name "super" p0) [] [] p1) m apos) (e :: es) [] pos) pst :: st, scope, [(("__class__" : Str), cc)], c⟩ : NF) = F at *
  have W : _root_.PySem.wpAt (model P w) (ncx CX P w K mg base N F f A outer s H E).A (.func F.body (envF F f s.heap.objs.size)) (execs F.body (envF F f s.heap.objs.size))
      (SP (ncx CX P w K mg base N F f A outer s H E) [] { nx := fun _ H' => Q .non H', rt := Q }) (ncx CX P w K mg base N F f A outer s H E).xe { s with heap := h₁, toks := s.toks + (ps.zip us).length } := by
    rw [hbd]
    apply ks_wpAt_execs_cons
    apply ks_wpAt_Assign_Name (hs := hsw _)
    apply PySem.ks_wpAt_mono (eval_super (σ := startF N vs [some (.ref D)]) TT hline (hform _) I hN hσ hx G (room.deeper _) hb2 hp ha (he _) (hpl _) q)
    · intro v s1 hv
      obtain ⟨u, H1, I1, ru, q1⟩ := hv
      apply store_ok I1 S.nd hi (.inl hy) ru (hf := .inr hy)
      intro s2 I2
      exact _root_.PySem.wpAt_of_wpAny (hr.run [] s2 _ H1 _ I2 q1)
    · exact fun _ _ z => z
  subst hF
  refine PySem.ks_wpAt_mono W (fun fl s' hs => ?_) fun _ _ z => z
  · cases fl with
    | ret u =>
      obtain ⟨v, σ2, H2, J, rv, qv⟩ := hs
      exact ⟨v, H2, J.os, J.bare, J.base, J.hok, rv, qv⟩
    | next =>
      obtain ⟨σ2, H2, J, qv⟩ := hs
      exact ⟨.non, H2, J.os, J.bare, J.base, J.hok, rfl, qv⟩
    | brk =>
      obtain ⟨_, _, _, qv⟩ := hs
      exact qv.elim
    | cont =>
      obtain ⟨_, _, _, qv⟩ := hs
      exact qv.elim
/-- super().m() as a value -/
theorem eval_super0 {CX2 : CXT} {k : Nat} {fd : FuncData} {ps : List Str} {sp : Sp} {E : XK} {body : List Stmt} {p0 p1 apos pos : Pos} {s : Shared} {pins : List (Addr × Obj)} {σ : L2.St} {H : Hp} {x dx : Addr} {fs : List (Str × V)} {Q : VK}
    (T : SupTxt P K C D f g cc F m) (hline : (apos.endLine == pos.line) = true)
    (hform : methodCallForm (([] : List Expr).length + ([] : List Keyword).length) (backTo pos (starEach [] (envF F f s0.heap.objs.size))) (backToKw pos (keywordEach [] (envF F f s0.heap.objs.size))) = true)
    (I : Inv (ncx CX P w K mg base N F f A outer s0 H0 E0) pins σ H s) (hN : N[0]? = some ("self" : Str)) (hσ : σ[0]? = some (some (.ref x))) (hx : H x = some (.ins C dx fs))
    (G : FnOk P w K mg base CX2 k g fd ps sp) (hr : Room k (ncx CX P w K mg base N F f A outer s0 H0 E0).A) (hb : Binds K fd ps []) (hp : Passes CX2 (ncx CX P w K mg base N F f A outer s0 H0 E0) E)
    (h : sp [.ref x] H Q E) :
    _root_.PySem.wpAt (model P w) (ncx CX P w K mg base N F f A outer s0 H0 E0).A (.func body (envF F f s0.heap.objs.size))
      (eval (.Call (.Attribute (.Call (.Name "super" p0) [] [] p1) m apos) [] [] pos) (envF F f s0.heap.objs.size)) (EP (ncx CX P w K mg base N F f A outer s0 H0 E0) pins σ Q) (ncx CX P w K mg base N F f A outer s0 H0 E0).xe s := by
  refine at_super T hline hform I hN hσ hx fun q s' J => ?_
  have hq := (J.pin (q, PySem.W.methodObj (.ref g) (.ref x)) (List.mem_append_right _ (List.mem_append_right _ List.mem_cons_self))).1
  apply PySem.W.callWith_of (P := PySem.W.MethP K q g (.ref x)) rfl (PySem.W.keeps_M T.fg)
  apply evalArgs_nil3
  refine ⟨⟨hq, J.kIn⟩, ?_⟩
  refine wpAny_mono (run_bound (us := []) (vs := []) (pins := pins ++ [(q, PySem.W.methodObj (.ref g) (.ref x))]) G hr hb hp J hq .nil h) (fun v s2 hv => ?_) fun _ _ z => z
  obtain ⟨y, H2, J2, ry, qy⟩ := hv
  exact ⟨y, H2, J2.pins_of fun p hp => J2.pin p (List.mem_append_right _ (List.mem_append_left _ hp)), ry, qy⟩
/-- a def super().m(); .. keeps its promise -/
theorem okS_do {CX2 : CXT} {k : Nat} {fd2 : FuncData} {ps ps2 : List Str} {sp sp2 : Sp} {p0 p1 apos pos pst : Pos} {st : List Stmt}
    {oc : Value} {od : Option Addr} {doc pm : Value} {an : Option Addr} {ct : Value} {osl : Array (Option Value)}
    (T : SupTxt P K C D f g cc F m) (hf : K.lookup f = some ⟨oc, od, .func (ksFn F.name F.qual F.params F.body F.scope .none .none doc pm an (.ref F.c) ct cc), osl⟩)
    (S : NScope N ps ["__class__"] F.scope)
    (hbd : F.body = .Expr (.Call (.Attribute (.Call (.Name "super" p0) [] [] p1) m apos) [] [] pos) pst :: st)
    (ar : ∀ vs H Q E, sp vs H Q E → vs.length = ps.length) (hN : N[0]? = some ("self" : Str))
    (G : FnOk P w K mg base CX2 k g fd2 ps2 sp2) (hb2 : Binds K fd2 ps2 [])
    (hline : (apos.endLine == pos.line) = true)
    (hform : ∀ L, methodCallForm (([] : List Expr).length + ([] : List Keyword).length) (backTo pos (starEach [] (envF F f L))) (backToKw pos (keywordEach [] (envF F f L))) = true)
    (hsw : ∀ L, swapsWith (.Call (.Attribute (.Call (.Name "super" p0) [] [] p1) m apos) [] [] pos) none pst.line (envF F f L) = pure false)
    (bd : ∀ (A : Around) (outer : List Env) (s : Shared) (H : Hp) (vs : List V) (Q : VK) (E : XK), Room k (A.deeper (envF F f s.heap.objs.size)) → sp vs H Q E →
      ∃ (x dx : Addr) (fs : List (Str × V)) (E2 : XK) (tr : TS), (startF N vs [some (.ref D)])[0]? = some (some (.ref x)) ∧ H x = some (.ins C dx fs) ∧ Passes CX2 (ncx CX P w K mg base N F f A outer s H E) E2 ∧
        PSs (ncx CX P w K mg base N F f A outer s H E) st tr ∧
        sp2 [.ref x] H (fun _ H2 => tr { nx := fun _ H' => Q .non H', rt := Q } (startF N vs [some (.ref D)]) H2) E2) :
    FnOk P w K mg base CX (k + 1) f (ksFn F.name F.qual F.params F.body F.scope .none .none doc pm an (.ref F.c) ct cc) ps sp := by
  refine ⟨ar, fun A outer s H args us vs Q E room env bind rel prem => ?_⟩
  have kin : K.In s.heap := env.mod.kin.keeps fun b o z => (env.bs b o z).1
  have nl : s.heap.NoLimit := env.mod.nolimit.keeps fun b o z => (env.bs b o z).1
  have long := ar _ _ _ _ prem
  obtain ⟨x, dx, fs, E2, tr, hσ, hx, hp, hr, q⟩ := bd A outer s H vs Q E (room.deeper _) prem
  have cells := cells_at T env
  have TT := T
  obtain ⟨nm, qual, params, body, scope, cl, c⟩ := F
  have hcl : cl = [(("__class__" : Str), cc)] := T.cl
  subst hcl
  refine ks_codeAny_call_defAt (binds := ps.zip us) room.depth (kin _ _ hf) rfl nl (PySem.W.codeRec_of kin T.code) rfl bind S.nocell (fun z hz => S.par z.1 (List.of_mem_zip hz).1) (fun h₁ hns k₁ => ?_) S.co S.gen S.kind
  have I : Inv (ncx CX P w K mg base N ⟨nm, qual, params, body, scope, [(("__class__" : Str), cc)], c⟩ f A outer s H E) [] (startF N vs [some (.ref D)]) H { s with heap := h₁, toks := s.toks + (ps.zip us).length } := inv_startN S room.hd env long rel cells hns k₁
  have hbd2 : body = .Expr (.Call (.Attribute (.Call (.Name "super" p0) [] [] p1) m apos) [] [] pos) pst :: st := hbd
  subst hbd2
  generalize hF : (⟨nm, qual, params, .Expr (.Call (.Attribute (.Call (.Name "super" p0) [] [] p1) m apos) [] [] pos) pst :: st, scope, [(("__class__" : Str), cc)], c⟩ : NF) = F at *
  have W : _root_.PySem.wpAt (model P w) (ncx CX P w K mg base N F f A outer s H E).A (.func F.body (envF F f s.heap.objs.size)) (execs F.body (envF F f s.heap.objs.size))
      (SP (ncx CX P w K mg base N F f A outer s H E) [] { nx := fun _ H' => Q .non H', rt := Q }) (ncx CX P w K mg base N F f A outer s H E).xe { s with heap := h₁, toks := s.toks + (ps.zip us).length } := by
    rw [hbd]
    apply ks_wpAt_execs_cons
    apply ks_wpAt_Expr_any (hi := I.quiet) (hs := hsw _)
    apply PySem.ks_wpAt_mono (eval_super0 (σ := startF N vs [some (.ref D)]) TT hline (hform _) I hN hσ hx G (room.deeper _) hb2 hp q)
    · intro v s1 hv
      obtain ⟨u, H1, I1, ru, q1⟩ := hv
      exact _root_.PySem.wpAt_of_wpAny (hr.run [] s1 _ H1 _ I1 q1)
    · exact fun _ _ z => z
  subst hF
  refine PySem.ks_wpAt_mono W (fun fl s' hs => ?_) fun _ _ z => z
  · cases fl with
    | ret u =>
      obtain ⟨v, σ2, H2, J, rv, qv⟩ := hs
      exact ⟨v, H2, J.os, J.bare, J.base, J.hok, rv, qv⟩
    | next =>
      obtain ⟨σ2, H2, J, qv⟩ := hs
      exact ⟨.non, H2, J.os, J.bare, J.base, J.hok, rfl, qv⟩
    | brk =>
      obtain ⟨_, _, _, qv⟩ := hs
      exact qv.elim
    | cont =>
      obtain ⟨_, _, _, qv⟩ := hs
      exact qv.elim
end
end Gs
/-! dict comprehensions whose keys are tuples -/
namespace Gq
open PySem PySem.Spec PyProof.Rows L2
section
variable {X : Cx}
theorem putTup {ps : List (Addr × Obj)} {σ : L2.St} {H : Hp} {s : Shared} {E : Value → Shared → Prop} {D b : Addr} {tab : List (List Key × V)} {ks : List Key} {x : V} {r : Value} {R : Unit → Shared → Prop} (room : X.A.units + 1 < cLine) (inv : Inv X ps σ H s) (eD : H D = some (.dT tab))
    (eb : H b = some (.tup (ks.map kV))) (few : tab.length < sizeLine) (rx : RelV x r) (go : ∀ s', Inv X ps σ (upd H D (.dT (putK tab ks x))) s' → R () s') : wpAny (model X.prog X.w) X.A (dictSet D (.ref b) r) R E s := by
  obtain ⟨_, notSys, us, rel, of_⟩ := dt_of inv.hok eD
  have short : us.length ≤ sizeLine := by
    have := Paired.length rel
    omega
  refine wpAny_dictSet_heap (hsz := short) (show X.A.units < cLine by omega) (key_of inv.hok eb) of_ fun h2 of2 but => go _ ?_
  obtain ⟨ob, es, ep, at_, w1, w2, w3, _, w4⟩ := of2
  refine d_write inv (by rw [eD]; exact True.intro) but ⟨ob, at_⟩ ⟨?_, notSys, _, (rel.put ks eb rx).keeps fun c ys ec => ?_, ob, es, ep, at_, w1, w2, w3, w4⟩
  · have := length_putK tab ks x
    omega
  · rw [upd_ne (ne_of ec eD (fun y => nomatch y))]
    exact ec
/-- what is left when the block has a turn: the pair is put, or the turn is passed over -/
def turnT (D : Addr) (tt : TT) (tk tv : TE) (nxt : Hp → Prop) : L2.St → Hp → Prop := fun σ H => tt σ H fun yes H1 => if yes = true then tk σ H1 fun y H2 => tv σ H2 fun z H3 =>
  ∃ (tab : List (List Key × V)) (ks : List Key) (a : Addr), y = .ref a ∧ H3 a = some (.tup (ks.map kV)) ∧ H3 D = some (.dT tab) ∧ tab.length < sizeLine ∧ nxt (upd H3 D (.dT (putK tab ks z))) else nxt H1
def tDcT (wi : TI) (g : TG) (tt : TT) (tk tv : TE) (vs : List Nat) : TE := fun σ H Q => wi σ H fun J H0 => ∀ D, H0 D = none → ∃ W : Nat → Nat → Hp → Prop, (∃ m, W 0 m (upd H0 D (.dT []))) ∧ ∀ i m H1, W i m H1 →
  (J.stop i H1 ∧ Q (.ref D) H1) ∨ (J.go i H1 ∧ ∃ nxt : Hp → Prop, (∀ H2, nxt H2 → ∃ m2, m2 < m ∧ W (i + 1) m2 H2) ∧ ∀ x H2, J.yld i H1 x H2 → g x (wipe σ vs) H2 fun σ2 H3 => wipe σ2 vs = wipe σ vs ∧ turnT D tt tk tv nxt σ2 H3)
theorem pe_dcT {kx vx tg iter : Expr} {ifs : List Expr} {scope : Scope} {own : List (Str × Nat)} {pos : Pos} {wi : TI} {g : TG} {tt : TT} {tk tv : TE} (calm : X.calm = true) (nd : X.N.Nodup) (over : PI X tg iter wi) (blk : BlkOk X.N X.env.scope scope own)
    (hg : ∀ (t : Shared) (h : Hp) (c : Addr) (cs : List (Str × Addr)) (fs : List Addr), PG (X.blk t h scope (compEnvC scope cs c X.env) fs) tg g)
    (ht : ∀ (t : Shared) (h : Hp) (c : Addr) (cs : List (Str × Addr)) (fs : List Addr), PTs (X.blk t h scope (compEnvC scope cs c X.env) fs) ifs tt)
    (hk : ∀ (t : Shared) (h : Hp) (c : Addr) (cs : List (Str × Addr)) (fs : List Addr), PE (X.blk t h scope (compEnvC scope cs c X.env) fs) kx tk)
    (hv : ∀ (t : Shared) (h : Hp) (c : Addr) (cs : List (Str × Addr)) (fs : List Addr), PE (X.blk t h scope (compEnvC scope cs c X.env) fs) vx tv) (room : X.A.units + 1 < cLine) (plain : ∀ x, foldedSetIterable iter X.env x = pure x := by intro _; rfl) :
    PE X (.DictComp kx vx [⟨tg, iter, ifs, 0⟩] scope pos) (tDcT wi g tt tk tv (own.map (·.2))) := by
  refine ⟨fun ps s σ H Q inv h => ?_⟩
  rw [arm_eval_DictComp]
  have free : ∀ y ∈ scope.names, y.2 = .free → ∃ c, X.env.cells.lookup y.1 = some c := fun y hy e => (blk.free y hy e).elim (fun k => inv.ok.has _ (.inl k)) fun k => inv.ok.has _ (.inr k)
  refine wpAny_comprehension_free rfl plain (closure_ok free) blk.kind (fun y hy e => by rw [blk.uniq y hy, e]) (thn (over.run ps s σ H _ inv h) fun v0 sA hA => thn hA fun v1 sB hB => ?_)
  obtain ⟨it, fp, tn, J, H0, rfl, invB, walk, stB, fpB, laps⟩ := hB
  refine (wpAny_newObj_type (newEnv_comp ?_))
  generalize eD : sB.heap.objs.size = D
  obtain ⟨W, ⟨m0, first⟩, each⟩ := laps D (invB.hok.fresh (Nat.le_of_eq eD))
  generalize eC : ({ sB with heap := sB.heap.push { cls := .type "dict", data := .dict #[] } } : Shared) = sC
  have heapC : sC.heap = sB.heap.push { cls := .type "dict", data := .dict #[] } := by rw [← eC]
  have invC : Inv X ps σ (upd H0 D (.dT [])) sC := by
    rw [← eC]
    refine invB.laid (t' := sB.toks) (fun b o e => Heap.get?_push_of_some _ e) (Nat.le_of_eq eD) ?_
    rw [← eD]
    exact dt_empty sB.heap invB.big
  have fpC : ∀ b ∈ fp, FpOk X ps (upd H0 D (.dT [])) b ∧ b < sC.heap.objs.size := fun b hb => by
    obtain ⟨o, e, _⟩ := walk.obj _ _ stB b hb
    have below := Heap.lt_size e
    refine ⟨⟨?_, (fpB b hb).2⟩, by rw [heapC, Heap.size_push]; exact Nat.lt_succ_of_lt below⟩
    rw [upd_ne (by rw [← eD]; exact Nat.ne_of_lt below)]
    exact (fpB b hb).1
  have stC : tn 0 sC.heap := walk.keep _ _ _ stB fun b _ o e => by rw [heapC]; exact Heap.get?_push_of_some _ e
  have invD := block_start invC blk nd fpC
  have rg := hg sC (upd H0 D (.dT [])) sC.heap.objs.size (cellsFrom (sC.heap.objs.size + 1) scope.names (cloFrom X.env.cells scope.names [])) fp
  have rt := ht sC (upd H0 D (.dT [])) sC.heap.objs.size (cellsFrom (sC.heap.objs.size + 1) scope.names (cloFrom X.env.cells scope.names [])) fp
  have rk := hk sC (upd H0 D (.dT [])) sC.heap.objs.size (cellsFrom (sC.heap.objs.size + 1) scope.names (cloFrom X.env.cells scope.names [])) fp
  have rv := hv sC (upd H0 D (.dT [])) sC.heap.objs.size (cellsFrom (sC.heap.objs.size + 1) scope.names (cloFrom X.env.cells scope.names [])) fp
  have fpN : ∀ b ∈ fp, (upd H0 D (.dT [])) b = none := fun b hb => (fpC b hb).1.1
  change codeAny (model X.prog X.w) X.A (.compStart _ 0 (.ref it) (.ref D) (compEnvC scope (cellsFrom (sC.heap.objs.size + 1) scope.names (cloFrom X.env.cells scope.names [])) sC.heap.objs.size X.env)) (compPost _ X.A X.xe none (EP X ps σ Q) (.ref D) sC.heap.objs.size) _
  generalize eE : compEnvC scope (cellsFrom (sC.heap.objs.size + 1) scope.names (cloFrom X.env.cells scope.names [])) sC.heap.objs.size X.env = env at invD rg rt rk rv ⊢
  have locE : env.locals = sC.heap.objs.size := by rw [← eE]; rfl
  generalize eH : upd H0 D (.dT []) = HC at invC invD rg rt rk rv first fpN fpC
  generalize eS : ({ sC with heap := pushCells (sC.heap.push { cls := .type "dict", data := .dict #[] }) scope.names } : Shared) = sD at invD ⊢
  have stD : tn 0 sD.heap := walk.keep _ _ _ stC fun b _ o e => by rw [← eS]; exact pushCells_keeps _ _ _ _ (Heap.get?_push_of_some _ e)
  have keep : ∀ {σ2 : L2.St} {H2 : Hp} {s2 : Shared}, Inv (X.blk sC HC scope env fp) [] σ2 H2 s2 → (∀ b ∈ fp, H2 b = none) → ∀ b ∈ fp, FpOk (X.blk sC HC scope env fp) [] H2 b := fun {σ2 H2 s2} i2 n2 b hb =>
    ⟨n2 b hb, (i2.ok.exf b hb).1, i2.ok.exfs b hb, .inl hb, fun x c e => (i2.ok.exf b hb).2 x c e, fun p hp => absurd (show p ∈ ([] : List (Addr × Obj)) ++ [] from hp) (by simp)⟩
  have round : codeAny (model X.prog X.w) X.A (.compLoop (.DictComp kx vx [⟨tg, iter, ifs, 0⟩] scope pos) 0 (.ref it) (.ref D) env) (compPost (model X.prog X.w) X.A X.xe none (EP X ps σ Q) (.ref D) sC.heap.objs.size) sD := by
    refine compLoop_anyD (fun n s2 => ∃ i H2, Inv (X.blk sC HC scope env fp) [] (wipe σ (own.map (·.2))) H2 s2 ∧ tn i s2.heap ∧ (∀ b ∈ fp, H2 b = none) ∧ W i n H2) ?_ m0 ⟨0, HC, invD, stD, fpN, first⟩
    rintro n s2 ⟨i, H2, i2, st2, n2, w2⟩
    rcases each i n H2 w2 with ⟨ends, out⟩ | ⟨goes, nxt, down, lap⟩
    · refine thnF (walk.done (X.blk sC HC scope env fp) rfl rfl rfl calm i [] s2 _ H2 (fun _ _ => False) i2 (keep i2 n2) st2 ends) fun r s3 ⟨er, i3⟩ => ?_
      subst er
      have back : Inv X ps σ H2 s3 := invC.call' (ch := fp) i3.os i3.base i3.hok i3.bare fun b hb => ⟨(fpC b hb).1.2.2.2.1, (fpC b hb).1.2.1, (fpC b hb).1.2.2.2.2.1, (fpC b hb).1.2.2.2.2.2⟩
      have gone : H2 sC.heap.objs.size = none := by
        have z : H2 env.locals = none := i3.free
        rw [locE] at z
        exact z
      obtain ⟨mm, ns, _⟩ := i3.loc
      have ns : s3.heap.Ns env.locals mm := ns
      rw [locE] at ns
      have f := invC.fpOk (Nat.le_refl _) gone
      obtain ⟨f0, f1, f2, f3, f4, f5⟩ := (show FpOk X ps H2 sC.heap.objs.size from f)
      exact ⟨mm, ns, fun h2 sb => ⟨.ref D, H2, back.turned (t' := s3.toks) (fun b o hb e => (sb.2 b hb).trans e) f0 f1 f3 f4 f5, rfl, out⟩⟩
    · refine thnF (walk.item (X.blk sC HC scope env fp) rfl rfl rfl calm i [] s2 _ H2 (fun _ _ => False) i2 (keep i2 n2) st2 goes) fun r s3 ⟨u, er, h3⟩ => ?_
      subst er
      refine thnF h3 fun _ s4 ⟨x, H4, i4, r4, y4, st4, n4⟩ => ?_
      have p4 := i4.pinned (keep i4 n4) (walk.obj _ _ st4)
      refine thnF (rg.run _ s4 _ H4 x u _ p4 r4 (lap x H4 y4)) fun _ s5 ⟨σ5, H5, i5, hw5, t5⟩ => ?_
      refine thnF (rt.run _ s5 σ5 H5 _ i5 t5) fun yes s6 ⟨H6, i6, t6⟩ => ?_
      have shut : ∀ {s9 : Shared} {H9 : Hp}, Inv (X.blk sC HC scope env fp) ([] ++ pinsAt fp s4.heap) σ5 H9 s9 → nxt H9 → ∃ m2, m2 < n ∧ ∃ i H2, Inv (X.blk sC HC scope env fp) [] (wipe σ (own.map (·.2))) H2 s9 ∧ tn i s9.heap ∧ (∀ b ∈ fp, H2 b = none) ∧ W i m2 H2 := fun {s9 H9} i9 nx => by
        obtain ⟨m2, lt, w9⟩ := down H9 nx
        have pin : ∀ b ∈ fp, ∀ o, s4.heap.get? b = some o → s9.heap.get? b = some o ∧ H9 b = none := fun b hb o e =>
          have z := i9.pin (b, o) (List.mem_append_right _ (List.mem_append_right _ (mem_pinsAt hb e)))
          ⟨z.1, z.2.1⟩
        have len : (wipe σ (own.map (·.2))).length = σ5.length := by rw [← hw5, wipe_length]
        refine ⟨m2, lt, i + 1, H9, (i9.unpinned (pins := [])).weak len (fun j v e => ?_), walk.keep _ _ _ st4 fun b hb o e => (pin b hb o e).1, fun b hb => ?_, w9⟩
        · rw [← hw5] at e
          exact (wipe_some e).1
        · obtain ⟨o, e, _⟩ := walk.obj _ _ st4 b hb
          exact (pin b hb o e).2
      cases yes with
      | false =>
        simp only [Bool.false_eq_true, if_false] at t6 ⊢
        exact shut i6 t6
      | true =>
        simp only [if_true] at t6 ⊢
        refine thnF (rk.run _ s6 σ5 H6 _ i6 t6) fun kv s7 ⟨yk, H7, i7, r7, t7⟩ => ?_
        refine thnF (rv.run _ s7 σ5 H7 _ i7 t7) fun vv s8 ⟨yv, H8, i8, r8, tab, ks, a, ek, ea, e8, few, nx⟩ => ?_
        subst ek
        cases (show kv = Value.ref a from r7)
        exact putTup (X := X.blk sC HC scope env fp) room i8 e8 ea few r8 fun s9 i9 => shut i9 nx
  exact codeAny_compStart_dict round (walk.self X.A 0 _ _ _ stD round)
theorem dcT_it {J : It} {n : Nat} {G : Hp → Prop} {Y : Nat → Hp → V → Hp → Prop} (w : Walk J n G Y) {g : TG} {tt : TT} {tk tv : TE} {vs : List Nat} {σ : L2.St} {H0 : Hp} {D : Addr} {out : Hp → Prop} (R : Nat → Hp → Prop) (begins : R 0 (upd H0 D (.dT []))) (good : ∀ i H, i ≤ n → R i H → G H)
    (lap : ∀ i x H H', i < n → R i H → Y i H x H' → g x (wipe σ vs) H' fun σ2 H2 => wipe σ2 vs = wipe σ vs ∧ turnT D tt tk tv (R (i + 1)) σ2 H2) (ends : ∀ H, R n H → out H) :
    ∃ W : Nat → Nat → Hp → Prop, (∃ m, W 0 m (upd H0 D (.dT []))) ∧ ∀ i m H1, W i m H1 →
      (J.stop i H1 ∧ out H1) ∨ (J.go i H1 ∧ ∃ nxt : Hp → Prop, (∀ H2, nxt H2 → ∃ m2, m2 < m ∧ W (i + 1) m2 H2) ∧ ∀ x H2, J.yld i H1 x H2 → g x (wipe σ vs) H2 fun σ2 H3 => wipe σ2 vs = wipe σ vs ∧ turnT D tt tk tv nxt σ2 H3) := by
  refine ⟨fun i m H => m + i = n ∧ R i H, ⟨n, rfl, begins⟩, fun i m H1 ⟨e, r⟩ => ?_⟩
  have gH := good i H1 (by omega) r
  cases m with
  | zero =>
    obtain rfl : i = n := by omega
    exact .inl ⟨w.stops H1 gH, ends H1 r⟩
  | succ m => exact .inr ⟨w.goes i H1 (by omega) gH, R (i + 1), fun H2 r2 => ⟨m, Nat.lt_succ_self m, by omega, r2⟩, fun x H2 y => lap i x H1 H2 (by omega) r (w.yields i H1 x H2 (by omega) gH y)⟩
end
end Gq
/-! Methods that raise. -/
namespace Gx
open PySem PySem.Spec PyProof.Rows L2 Gd
theorem pe_or {X : Cx} {e : Expr} {t u : TE} (a : PE X e t) (b : PE X e u) : PE X e (fun σ H Q => t σ H Q ∨ u σ H Q) := ⟨fun pins s σ H Q I h => h.elim (a.run pins s σ H Q I) (b.run pins s σ H Q I)⟩
/-- a method that may raise -/
structure MetX (P : Program) (w : World) (K : PySem.W.Frag) (mg : Str → Option Value) (base : Heap) (k : Nat) (C : Addr) (m : Str) (sp : Sp) : Prop where
  ex : ∃ (f : Addr) (fd : FuncData) (ps : List Str), Cls K C ∧ Meth K C m f ∧ FnOk P w K mg base (L2.CX P w) k f fd ps sp ∧ Binds K fd ps []
def tMethX (C : Addr) (m : Str) (sp : Sp) (E : L2.St → XK) (ta : TE) (t : TA) : TE := fun σ H Q => ta σ H fun x H1 => ∃ a dx fs, x = .ref a ∧ H1 a = some (.ins C dx fs) ∧ fs.lookup m = none ∧ t σ H1 fun vs H2 => sp (x :: vs) H2 Q (E σ)
section
variable {X : Cx} {k j : Nat} {C : Addr} {m : Str} {sp : Sp} {pos apos : Pos} {e o : Expr} {es : List Expr} {ta : TE} {t : TA}
theorem pe_mtX {W : WX} {pl : Sem Bool} (c : MetX X.prog X.w X.K X.mg X.base k C m sp) (hr : Room j X.A) (hk : k ≤ j) (tk : Takes X W) (he : PE X o ta) (ha : PA X (e :: es) t)
    (hst : starEach (e :: es) X.env = (false, eval e X.env) :: starEach es X.env := by rfl) (hpl : (backTo pos (starEach es X.env)).any (·.1) = false := by rfl)
    (ht : eval (.Call (.Attribute o m apos) (e :: es) [] pos) X.env = (do
      let ov ← eval o X.env
      standAt apos.atName
      let (f, first) ← holding [ov] (getMethod ov m pl)
      callWith pos f first (backTo pos (starEach (e :: es) X.env)) (backToKw pos (keywordEach [] X.env))) := by rfl) :
    PE X (.Call (.Attribute o m apos) (e :: es) [] pos) (tMethX C m sp (WE W) ta t) := by
  obtain ⟨f, fd, ps, hc, hm, F, b⟩ := c.ex
  refine ⟨fun pins s σ H Q I h => ?_⟩
  refine PySem.W.methodCall_KW (pl := pl) (thn (he.run pins s σ H _ I h) fun u s1 ⟨x, H1, I1, rx, a, dx, fs, ex, ea, l, q⟩ => ?_) ht
  subst ex
  obtain rfl : u = Value.ref a := rx
  refine getmeth_ok I1 ea hc hm l ?_
  refine PySem.W.callWith_K (first := [.ref a]) (h₀ := X.base) I.ok.mod.kin hm.kp (thn (ha.run pos pins s1 σ H1 _ I1 q) fun us s2 ⟨vs, H2, I2, r, q2⟩ => ⟨I2.kIn, ?_⟩) hst hpl
  exact run_fnS (us := .ref a :: us) (vs := .ref a :: vs) F (hr.mono hk) b (passAt tk σ) I2 (.cons rfl r) q2
/-- where it raises nothing -/
theorem pe_mtN {pl : Sem Bool} (c : MetX X.prog X.w X.K X.mg X.base k C m sp) (hr : Room j X.A) (hk : k ≤ j) (he : PE X o ta) (ha : PA X (e :: es) t)
    (hst : starEach (e :: es) X.env = (false, eval e X.env) :: starEach es X.env := by rfl) (hpl : (backTo pos (starEach es X.env)).any (·.1) = false := by rfl)
    (ht : eval (.Call (.Attribute o m apos) (e :: es) [] pos) X.env = (do
      let ov ← eval o X.env
      standAt apos.atName
      let (f, first) ← holding [ov] (getMethod ov m pl)
      callWith pos f first (backTo pos (starEach (e :: es) X.env)) (backToKw pos (keywordEach [] X.env))) := by rfl) :
    PE X (.Call (.Attribute o m apos) (e :: es) [] pos) (tMeth C m sp [] E0 ta t) := by
  obtain ⟨f, fd, ps, hc, hm, F, b⟩ := c.ex
  exact pe_meth (pl := pl) he hc hm F (hr.mono hk) b .nil passL ha hst hpl ht
end
end Gx
set_option maxHeartbeats 1000000
namespace K41
open PySem PySem.Spec PyProof.Rows L2 Gd
open C8 (clsBody Met pe_mt pe_mt0)
def topS (i : Nat) : Stmt := PySem.Challenge.pw_makeskept_k41_elder_ones_refused.main.body.getD i (.Pass ⟨0, 0, 0, 0⟩)
abbrev s__wall : Stmt := topS 0
abbrev s_found_by_halving : Stmt := topS 2
abbrev s_is_whole : Stmt := topS 19
abbrev s_is_worth : Stmt := topS 20
abbrev s_is_worths : Stmt := topS 21
abbrev s_is_changes : Stmt := topS 22
abbrev s__is_change : Stmt := topS 23
abbrev s__law_cell_at : Stmt := topS 34
abbrev s__law_box : Stmt := topS 35
abbrev s__law_take : Stmt := topS 36
abbrev s__law_caught : Stmt := topS 37
abbrev s__law_told : Stmt := topS 38
abbrev s__law_seen : Stmt := topS 39
abbrev s__law_bad : Stmt := topS 40
abbrev s__law_bad_right : Stmt := topS 41
abbrev s__law_ask : Stmt := topS 42
abbrev s__law_bad_ask : Stmt := topS 43
abbrev s__law_asks_refused : Stmt := topS 44
abbrev s__law_full_right : Stmt := topS 45
abbrev s_law : Stmt := topS 46
abbrev s_NoRow___init__ : Stmt := (clsBody (topS 5)).getD 0 (.Pass ⟨0, 0, 0, 0⟩)
abbrev s_NoWorth___init__ : Stmt := (clsBody (topS 6)).getD 0 (.Pass ⟨0, 0, 0, 0⟩)
abbrev s_NoPlace___init__ : Stmt := (clsBody (topS 7)).getD 0 (.Pass ⟨0, 0, 0, 0⟩)
abbrev s_NoStretch___init__ : Stmt := (clsBody (topS 8)).getD 0 (.Pass ⟨0, 0, 0, 0⟩)
abbrev s_NoMake___init__ : Stmt := (clsBody (topS 9)).getD 0 (.Pass ⟨0, 0, 0, 0⟩)
abbrev s_NoNumber___init__ : Stmt := (clsBody (topS 10)).getD 0 (.Pass ⟨0, 0, 0, 0⟩)
abbrev s_NoChanges___init__ : Stmt := (clsBody (topS 11)).getD 0 (.Pass ⟨0, 0, 0, 0⟩)
abbrev s_TooMany___init__ : Stmt := (clsBody (topS 12)).getD 0 (.Pass ⟨0, 0, 0, 0⟩)
abbrev s_Alone___init__ : Stmt := (clsBody (topS 13)).getD 0 (.Pass ⟨0, 0, 0, 0⟩)
abbrev s_Elder___init__ : Stmt := (clsBody (topS 14)).getD 0 (.Pass ⟨0, 0, 0, 0⟩)
abbrev s_MakeTree___init__ : Stmt := (clsBody (topS 26)).getD 0 (.Pass ⟨0, 0, 0, 0⟩)
abbrev s_MakeTree_many : Stmt := (clsBody (topS 26)).getD 1 (.Pass ⟨0, 0, 0, 0⟩)
abbrev s_MakeTree_grow : Stmt := (clsBody (topS 26)).getD 2 (.Pass ⟨0, 0, 0, 0⟩)
abbrev s_MakeTree_own : Stmt := (clsBody (topS 26)).getD 3 (.Pass ⟨0, 0, 0, 0⟩)
abbrev s_MakeTree_depth : Stmt := (clsBody (topS 26)).getD 4 (.Pass ⟨0, 0, 0, 0⟩)
abbrev s_MakeTree_on : Stmt := (clsBody (topS 26)).getD 5 (.Pass ⟨0, 0, 0, 0⟩)
abbrev s_MakeTree_line : Stmt := (clsBody (topS 26)).getD 6 (.Pass ⟨0, 0, 0, 0⟩)
abbrev s_MakeTree_up : Stmt := (clsBody (topS 26)).getD 7 (.Pass ⟨0, 0, 0, 0⟩)
abbrev s_MakeTree_nearest : Stmt := (clsBody (topS 26)).getD 8 (.Pass ⟨0, 0, 0, 0⟩)
abbrev s_MakeTree_way : Stmt := (clsBody (topS 26)).getD 9 (.Pass ⟨0, 0, 0, 0⟩)
abbrev s_MakeTree_apart : Stmt := (clsBody (topS 26)).getD 10 (.Pass ⟨0, 0, 0, 0⟩)
abbrev s_MakeTree_copied : Stmt := (clsBody (topS 26)).getD 11 (.Pass ⟨0, 0, 0, 0⟩)
abbrev s_MakeTree__grown_alike : Stmt := (clsBody (topS 26)).getD 12 (.Pass ⟨0, 0, 0, 0⟩)
abbrev s_MakeTree__need_make : Stmt := (clsBody (topS 26)).getD 13 (.Pass ⟨0, 0, 0, 0⟩)
abbrev s_MakeTree__need_steps : Stmt := (clsBody (topS 26)).getD 14 (.Pass ⟨0, 0, 0, 0⟩)
abbrev s_LeapTree___init__ : Stmt := (clsBody (topS 28)).getD 0 (.Pass ⟨0, 0, 0, 0⟩)
abbrev s_LeapTree_grow : Stmt := (clsBody (topS 28)).getD 1 (.Pass ⟨0, 0, 0, 0⟩)
abbrev s_LeapTree_leaps : Stmt := (clsBody (topS 28)).getD 2 (.Pass ⟨0, 0, 0, 0⟩)
abbrev s_LeapTree_leap_way : Stmt := (clsBody (topS 28)).getD 3 (.Pass ⟨0, 0, 0, 0⟩)
abbrev s_LeapTree_copied : Stmt := (clsBody (topS 28)).getD 4 (.Pass ⟨0, 0, 0, 0⟩)
abbrev s_LeapTree__leaps_through : Stmt := (clsBody (topS 28)).getD 5 (.Pass ⟨0, 0, 0, 0⟩)
abbrev s_Rows___init__ : Stmt := (clsBody (topS 30)).getD 0 (.Pass ⟨0, 0, 0, 0⟩)
abbrev s_Rows_way : Stmt := (clsBody (topS 30)).getD 1 (.Pass ⟨0, 0, 0, 0⟩)
abbrev s_Rows_room : Stmt := (clsBody (topS 30)).getD 2 (.Pass ⟨0, 0, 0, 0⟩)
abbrev s_Rows_copied : Stmt := (clsBody (topS 30)).getD 3 (.Pass ⟨0, 0, 0, 0⟩)
abbrev s_Rows_begin : Stmt := (clsBody (topS 30)).getD 4 (.Pass ⟨0, 0, 0, 0⟩)
abbrev s_Rows_store : Stmt := (clsBody (topS 30)).getD 5 (.Pass ⟨0, 0, 0, 0⟩)
abbrev s_Rows_need_new : Stmt := (clsBody (topS 30)).getD 6 (.Pass ⟨0, 0, 0, 0⟩)
abbrev s_Rows_looked : Stmt := (clsBody (topS 30)).getD 7 (.Pass ⟨0, 0, 0, 0⟩)
abbrev s_Rows_worths_in : Stmt := (clsBody (topS 30)).getD 8 (.Pass ⟨0, 0, 0, 0⟩)
abbrev s_Rows_freed : Stmt := (clsBody (topS 30)).getD 9 (.Pass ⟨0, 0, 0, 0⟩)
abbrev s_Rows_size : Stmt := (clsBody (topS 30)).getD 10 (.Pass ⟨0, 0, 0, 0⟩)
abbrev s_Rows_many : Stmt := (clsBody (topS 30)).getD 11 (.Pass ⟨0, 0, 0, 0⟩)
abbrev s_Rows_makes : Stmt := (clsBody (topS 30)).getD 12 (.Pass ⟨0, 0, 0, 0⟩)
abbrev s_Rows_tree : Stmt := (clsBody (topS 30)).getD 13 (.Pass ⟨0, 0, 0, 0⟩)
abbrev s_Rows_place_of : Stmt := (clsBody (topS 30)).getD 14 (.Pass ⟨0, 0, 0, 0⟩)
abbrev s_Rows_writer : Stmt := (clsBody (topS 30)).getD 15 (.Pass ⟨0, 0, 0, 0⟩)
abbrev s_Rows_put : Stmt := (clsBody (topS 30)).getD 16 (.Pass ⟨0, 0, 0, 0⟩)
abbrev s_Rows_put_all : Stmt := (clsBody (topS 30)).getD 17 (.Pass ⟨0, 0, 0, 0⟩)
abbrev s_Rows_at : Stmt := (clsBody (topS 30)).getD 18 (.Pass ⟨0, 0, 0, 0⟩)
abbrev s_Rows_row : Stmt := (clsBody (topS 30)).getD 19 (.Pass ⟨0, 0, 0, 0⟩)
abbrev s_Rows_stretch : Stmt := (clsBody (topS 30)).getD 20 (.Pass ⟨0, 0, 0, 0⟩)
abbrev s_Rows_let_go : Stmt := (clsBody (topS 30)).getD 21 (.Pass ⟨0, 0, 0, 0⟩)
abbrev s_Rows_steps : Stmt := (clsBody (topS 30)).getD 22 (.Pass ⟨0, 0, 0, 0⟩)
abbrev s_Rows_add_steps : Stmt := (clsBody (topS 30)).getD 23 (.Pass ⟨0, 0, 0, 0⟩)
abbrev s_Rows_need_make : Stmt := (clsBody (topS 30)).getD 24 (.Pass ⟨0, 0, 0, 0⟩)
abbrev s_Rows_need_place : Stmt := (clsBody (topS 30)).getD 25 (.Pass ⟨0, 0, 0, 0⟩)
abbrev s_Rows_need_stretch : Stmt := (clsBody (topS 30)).getD 26 (.Pass ⟨0, 0, 0, 0⟩)
abbrev s_Rows_same_makes : Stmt := (clsBody (topS 30)).getD 27 (.Pass ⟨0, 0, 0, 0⟩)
abbrev s_Rows__up_to_writer : Stmt := (clsBody (topS 30)).getD 28 (.Pass ⟨0, 0, 0, 0⟩)
abbrev s_Rows__needed_no_more : Stmt := (clsBody (topS 30)).getD 29 (.Pass ⟨0, 0, 0, 0⟩)
abbrev s_Rows__row_writers : Stmt := (clsBody (topS 30)).getD 30 (.Pass ⟨0, 0, 0, 0⟩)
abbrev s_Rows__row_put : Stmt := (clsBody (topS 30)).getD 31 (.Pass ⟨0, 0, 0, 0⟩)
abbrev s_Rows__row_need_room_for : Stmt := (clsBody (topS 30)).getD 32 (.Pass ⟨0, 0, 0, 0⟩)
abbrev s_Rows__row_need_there : Stmt := (clsBody (topS 30)).getD 33 (.Pass ⟨0, 0, 0, 0⟩)
abbrev s_Lined_way : Stmt := (clsBody (topS 32)).getD 0 (.Pass ⟨0, 0, 0, 0⟩)
abbrev s_Lined_room : Stmt := (clsBody (topS 32)).getD 1 (.Pass ⟨0, 0, 0, 0⟩)
abbrev s_Lined_copied : Stmt := (clsBody (topS 32)).getD 2 (.Pass ⟨0, 0, 0, 0⟩)
abbrev s_Lined_box : Stmt := (clsBody (topS 32)).getD 3 (.Pass ⟨0, 0, 0, 0⟩)
abbrev s_Lined_put : Stmt := (clsBody (topS 32)).getD 4 (.Pass ⟨0, 0, 0, 0⟩)
abbrev s_Lined_put_all : Stmt := (clsBody (topS 32)).getD 5 (.Pass ⟨0, 0, 0, 0⟩)
abbrev s_Lined_let_go : Stmt := (clsBody (topS 32)).getD 6 (.Pass ⟨0, 0, 0, 0⟩)
abbrev s_Lined_begin : Stmt := (clsBody (topS 32)).getD 7 (.Pass ⟨0, 0, 0, 0⟩)
abbrev s_Lined_need_new : Stmt := (clsBody (topS 32)).getD 8 (.Pass ⟨0, 0, 0, 0⟩)
abbrev s_Lined_store : Stmt := (clsBody (topS 32)).getD 9 (.Pass ⟨0, 0, 0, 0⟩)
abbrev s_Lined_looked : Stmt := (clsBody (topS 32)).getD 10 (.Pass ⟨0, 0, 0, 0⟩)
abbrev s_Lined_freed : Stmt := (clsBody (topS 32)).getD 11 (.Pass ⟨0, 0, 0, 0⟩)
theorem sc_MakeTree___init__ : FnScope ["self"] ["self"] (defScope s_MakeTree___init__) := ⟨rfl, rfl, rfl, by decide +kernel, rfl, by decide +kernel, by decide +kernel⟩
theorem sc_MakeTree_many : FnScope ["self"] ["self"] (defScope s_MakeTree_many) := ⟨rfl, rfl, rfl, by decide +kernel, rfl, by decide +kernel, by decide +kernel⟩
theorem sc_MakeTree_grow : FnScope ["self", "make", "number"] ["self", "make"] (defScope s_MakeTree_grow) := ⟨rfl, rfl, rfl, by decide +kernel, rfl, by decide +kernel, by decide +kernel⟩
theorem sc_MakeTree_own : FnScope ["self", "make"] ["self", "make"] (defScope s_MakeTree_own) := ⟨rfl, rfl, rfl, by decide +kernel, rfl, by decide +kernel, by decide +kernel⟩
theorem sc_MakeTree_depth : FnScope ["self", "make"] ["self", "make"] (defScope s_MakeTree_depth) := ⟨rfl, rfl, rfl, by decide +kernel, rfl, by decide +kernel, by decide +kernel⟩
theorem sc_MakeTree_on : FnScope ["self", "make"] ["self", "make"] (defScope s_MakeTree_on) := ⟨rfl, rfl, rfl, by decide +kernel, rfl, by decide +kernel, by decide +kernel⟩
theorem sc_MakeTree_line : FnScope ["self", "make", "line"] ["self", "make"] (defScope s_MakeTree_line) := ⟨rfl, rfl, rfl, by decide +kernel, rfl, by decide +kernel, by decide +kernel⟩
theorem sc_MakeTree_up : FnScope ["self", "make", "steps"] ["self", "make", "steps"] (defScope s_MakeTree_up) := ⟨rfl, rfl, rfl, by decide +kernel, rfl, by decide +kernel, by decide +kernel⟩
theorem sc_MakeTree_nearest : FnScope ["self", "one", "other"] ["self", "one", "other"] (defScope s_MakeTree_nearest) := ⟨rfl, rfl, rfl, by decide +kernel, rfl, by decide +kernel, by decide +kernel⟩
theorem sc_MakeTree_way : FnScope ["self", "one", "other", "depth", "up", "down"] ["self", "one", "other"] (defScope s_MakeTree_way) := ⟨rfl, rfl, rfl, by decide +kernel, rfl, by decide +kernel, by decide +kernel⟩
theorem sc_MakeTree_apart : FnScope ["self", "one", "other"] ["self", "one", "other"] (defScope s_MakeTree_apart) := ⟨rfl, rfl, rfl, by decide +kernel, rfl, by decide +kernel, by decide +kernel⟩
theorem sc_MakeTree_copied : FnScope ["self"] ["self"] (defScope s_MakeTree_copied) := ⟨rfl, rfl, rfl, by decide +kernel, rfl, by decide +kernel, by decide +kernel⟩
theorem sc_MakeTree__grown_alike : FnScope ["self", "other", "own"] ["self", "other"] (defScope s_MakeTree__grown_alike) := ⟨rfl, rfl, rfl, by decide +kernel, rfl, by decide +kernel, by decide +kernel⟩
theorem sc_MakeTree__need_make : FnScope ["self", "make"] ["self", "make"] (defScope s_MakeTree__need_make) := ⟨rfl, rfl, rfl, by decide +kernel, rfl, by decide +kernel, by decide +kernel⟩
theorem sc_MakeTree__need_steps : FnScope ["self", "make", "steps"] ["self", "make", "steps"] (defScope s_MakeTree__need_steps) := ⟨rfl, rfl, rfl, by decide +kernel, rfl, by decide +kernel, by decide +kernel⟩
theorem sc_LeapTree_leaps : FnScope ["self", "make"] ["self", "make"] (defScope s_LeapTree_leaps) := ⟨rfl, rfl, rfl, by decide +kernel, rfl, by decide +kernel, by decide +kernel⟩
theorem sc_LeapTree_leap_way : FnScope ["self", "make", "steps"] ["self", "make", "steps"] (defScope s_LeapTree_leap_way) := ⟨rfl, rfl, rfl, by decide +kernel, rfl, by decide +kernel, by decide +kernel⟩
theorem sc_LeapTree_copied : FnScope ["self"] ["self"] (defScope s_LeapTree_copied) := ⟨rfl, rfl, rfl, by decide +kernel, rfl, by decide +kernel, by decide +kernel⟩
theorem sc_LeapTree__leaps_through : FnScope ["self", "own", "leaps"] ["self", "own"] (defScope s_LeapTree__leaps_through) := ⟨rfl, rfl, rfl, by decide +kernel, rfl, by decide +kernel, by decide +kernel⟩
theorem sc_Rows___init__ : FnScope ["self", "worths"] ["self", "worths"] (defScope s_Rows___init__) := ⟨rfl, rfl, rfl, by decide +kernel, rfl, by decide +kernel, by decide +kernel⟩
theorem sc_Rows_way : FnScope ["self"] ["self"] (defScope s_Rows_way) := ⟨rfl, rfl, rfl, by decide +kernel, rfl, by decide +kernel, by decide +kernel⟩
theorem sc_Rows_room : FnScope ["self"] ["self"] (defScope s_Rows_room) := ⟨rfl, rfl, rfl, by decide +kernel, rfl, by decide +kernel, by decide +kernel⟩
theorem sc_Rows_copied : FnScope ["self"] ["self"] (defScope s_Rows_copied) := ⟨rfl, rfl, rfl, by decide +kernel, rfl, by decide +kernel, by decide +kernel⟩
theorem sc_Rows_begin : FnScope ["self", "worths"] ["self", "worths"] (defScope s_Rows_begin) := ⟨rfl, rfl, rfl, by decide +kernel, rfl, by decide +kernel, by decide +kernel⟩
theorem sc_Rows_store : FnScope ["self", "make", "number", "place", "worth"] ["self", "make", "number", "place", "worth"] (defScope s_Rows_store) := ⟨rfl, rfl, rfl, by decide +kernel, rfl, by decide +kernel, by decide +kernel⟩
theorem sc_Rows_need_new : FnScope ["self", "make"] ["self", "make"] (defScope s_Rows_need_new) := ⟨rfl, rfl, rfl, by decide +kernel, rfl, by decide +kernel, by decide +kernel⟩
theorem sc_Rows_looked : FnScope ["self", "make", "place"] ["self", "make", "place"] (defScope s_Rows_looked) := ⟨rfl, rfl, rfl, by decide +kernel, rfl, by decide +kernel, by decide +kernel⟩
theorem sc_Rows_worths_in : FnScope ["self", "make", "low", "high", "place"] ["self", "make", "low", "high"] (defScope s_Rows_worths_in) := ⟨rfl, rfl, rfl, by decide +kernel, rfl, by decide +kernel, by decide +kernel⟩
theorem sc_Rows_freed : FnScope ["self", "make"] ["self", "make"] (defScope s_Rows_freed) := ⟨rfl, rfl, rfl, by decide +kernel, rfl, by decide +kernel, by decide +kernel⟩
theorem sc_Rows_size : FnScope ["self"] ["self"] (defScope s_Rows_size) := ⟨rfl, rfl, rfl, by decide +kernel, rfl, by decide +kernel, by decide +kernel⟩
theorem sc_Rows_many : FnScope ["self"] ["self"] (defScope s_Rows_many) := ⟨rfl, rfl, rfl, by decide +kernel, rfl, by decide +kernel, by decide +kernel⟩
theorem sc_Rows_makes : FnScope ["self"] ["self"] (defScope s_Rows_makes) := ⟨rfl, rfl, rfl, by decide +kernel, rfl, by decide +kernel, by decide +kernel⟩
theorem sc_Rows_tree : FnScope ["self"] ["self"] (defScope s_Rows_tree) := ⟨rfl, rfl, rfl, by decide +kernel, rfl, by decide +kernel, by decide +kernel⟩
theorem sc_Rows_place_of : FnScope ["self", "make"] ["self", "make"] (defScope s_Rows_place_of) := ⟨rfl, rfl, rfl, by decide +kernel, rfl, by decide +kernel, by decide +kernel⟩
theorem sc_Rows_writer : FnScope ["self", "make", "place"] ["self", "make", "place"] (defScope s_Rows_writer) := ⟨rfl, rfl, rfl, by decide +kernel, rfl, by decide +kernel, by decide +kernel⟩
theorem sc_Rows_put : FnScope ["self", "make", "place", "worth"] ["self", "make", "place", "worth"] (defScope s_Rows_put) := ⟨rfl, rfl, rfl, by decide +kernel, rfl, by decide +kernel, by decide +kernel⟩
theorem sc_Rows_put_all : FnScope ["self", "make", "changes", "numbers", "on", "place", "worth"] ["self", "make", "changes"] (defScope s_Rows_put_all) := ⟨rfl, rfl, rfl, by decide +kernel, rfl, by decide +kernel, by decide +kernel⟩
theorem sc_Rows_at : FnScope ["self", "make", "place"] ["self", "make", "place"] (defScope s_Rows_at) := ⟨rfl, rfl, rfl, by decide +kernel, rfl, by decide +kernel, by decide +kernel⟩
theorem sc_Rows_row : FnScope ["self", "make"] ["self", "make"] (defScope s_Rows_row) := ⟨rfl, rfl, rfl, by decide +kernel, rfl, by decide +kernel, by decide +kernel⟩
theorem sc_Rows_stretch : FnScope ["self", "make", "low", "high"] ["self", "make", "low", "high"] (defScope s_Rows_stretch) := ⟨rfl, rfl, rfl, by decide +kernel, rfl, by decide +kernel, by decide +kernel⟩
theorem sc_Rows_let_go : FnScope ["self", "make"] ["self", "make"] (defScope s_Rows_let_go) := ⟨rfl, rfl, rfl, by decide +kernel, rfl, by decide +kernel, by decide +kernel⟩
theorem sc_Rows_steps : FnScope ["self"] ["self"] (defScope s_Rows_steps) := ⟨rfl, rfl, rfl, by decide +kernel, rfl, by decide +kernel, by decide +kernel⟩
theorem sc_Rows_add_steps : FnScope ["self", "many"] ["self", "many"] (defScope s_Rows_add_steps) := ⟨rfl, rfl, rfl, by decide +kernel, rfl, by decide +kernel, by decide +kernel⟩
theorem sc_Rows_need_make : FnScope ["self", "make"] ["self", "make"] (defScope s_Rows_need_make) := ⟨rfl, rfl, rfl, by decide +kernel, rfl, by decide +kernel, by decide +kernel⟩
theorem sc_Rows_need_place : FnScope ["self", "place"] ["self", "place"] (defScope s_Rows_need_place) := ⟨rfl, rfl, rfl, by decide +kernel, rfl, by decide +kernel, by decide +kernel⟩
theorem sc_Rows_need_stretch : FnScope ["self", "low", "high"] ["self", "low", "high"] (defScope s_Rows_need_stretch) := ⟨rfl, rfl, rfl, by decide +kernel, rfl, by decide +kernel, by decide +kernel⟩
theorem sc_Rows_same_makes : FnScope ["self", "other"] ["self", "other"] (defScope s_Rows_same_makes) := ⟨rfl, rfl, rfl, by decide +kernel, rfl, by decide +kernel, by decide +kernel⟩
theorem sc_Rows__up_to_writer : FnScope ["self", "make", "place", "makes"] ["self", "make", "place"] (defScope s_Rows__up_to_writer) := ⟨rfl, rfl, rfl, by decide +kernel, rfl, by decide +kernel, by decide +kernel⟩
theorem sc_Rows__needed_no_more : FnScope ["self", "make", "kept", "writes", "place", "writer", "other", "writers"] ["self", "make"] (defScope s_Rows__needed_no_more) := ⟨rfl, rfl, rfl, by decide +kernel, rfl, by decide +kernel, by decide +kernel⟩
theorem sc_Rows__row_writers : FnScope ["self", "make", "writers", "number"] ["self", "make"] (defScope s_Rows__row_writers) := ⟨rfl, rfl, rfl, by decide +kernel, rfl, by decide +kernel, by decide +kernel⟩
theorem sc_Rows__row_put : FnScope ["self", "make", "place", "worth", "number"] ["self", "make", "place", "worth"] (defScope s_Rows__row_put) := ⟨rfl, rfl, rfl, by decide +kernel, rfl, by decide +kernel, by decide +kernel⟩
theorem sc_Rows__row_need_room_for : FnScope ["self", "more", "many"] ["self", "more"] (defScope s_Rows__row_need_room_for) := ⟨rfl, rfl, rfl, by decide +kernel, rfl, by decide +kernel, by decide +kernel⟩
theorem sc_Rows__row_need_there : FnScope ["self", "make"] ["self", "make"] (defScope s_Rows__row_need_there) := ⟨rfl, rfl, rfl, by decide +kernel, rfl, by decide +kernel, by decide +kernel⟩
theorem sc_Lined_way : FnScope ["self"] ["self"] (defScope s_Lined_way) := ⟨rfl, rfl, rfl, by decide +kernel, rfl, by decide +kernel, by decide +kernel⟩
theorem sc_Lined_room : FnScope ["self", "box"] ["self"] (defScope s_Lined_room) := ⟨rfl, rfl, rfl, by decide +kernel, rfl, by decide +kernel, by decide +kernel⟩
theorem sc_Lined_copied : FnScope ["self", "other", "box"] ["self"] (defScope s_Lined_copied) := ⟨rfl, rfl, rfl, by decide +kernel, rfl, by decide +kernel, by decide +kernel⟩
theorem sc_Lined_box : FnScope ["self", "place"] ["self", "place"] (defScope s_Lined_box) := ⟨rfl, rfl, rfl, by decide +kernel, rfl, by decide +kernel, by decide +kernel⟩
theorem sc_Lined_begin : FnScope ["self", "worths", "worth"] ["self", "worths"] (defScope s_Lined_begin) := ⟨rfl, rfl, rfl, by decide +kernel, rfl, by decide +kernel, by decide +kernel⟩
theorem sc_Lined_need_new : FnScope ["self", "make"] ["self", "make"] (defScope s_Lined_need_new) := ⟨rfl, rfl, rfl, by decide +kernel, rfl, by decide +kernel, by decide +kernel⟩
theorem sc_Lined_store : FnScope ["self", "make", "number", "place", "worth"] ["self", "make", "number", "place", "worth"] (defScope s_Lined_store) := ⟨rfl, rfl, rfl, by decide +kernel, rfl, by decide +kernel, by decide +kernel⟩
theorem sc_Lined_looked : FnScope ["self", "make", "place", "box", "at", "steps", "turn"] ["self", "make", "place"] (defScope s_Lined_looked) := ⟨rfl, rfl, rfl, by decide +kernel, rfl, by decide +kernel, by decide +kernel⟩
theorem sc_Lined_freed : FnScope ["self", "make", "writes", "place", "writer", "turn"] ["self", "make"] (defScope s_Lined_freed) := ⟨rfl, rfl, rfl, by decide +kernel, rfl, by decide +kernel, by decide +kernel⟩
theorem sc__wall : FnScope ["k"] ["k"] (defScope s__wall) := ⟨rfl, rfl, rfl, by decide +kernel, rfl, by decide +kernel, by decide +kernel⟩
theorem sc_found_by_halving : FnScope ["stands", "stand", "begin", "end", "steps", "middle"] ["stands", "stand"] (defScope s_found_by_halving) := ⟨rfl, rfl, rfl, by decide +kernel, rfl, by decide +kernel, by decide +kernel⟩
theorem sc_is_whole : FnScope ["thing", "low", "high"] ["thing", "low", "high"] (defScope s_is_whole) := ⟨rfl, rfl, rfl, by decide +kernel, rfl, by decide +kernel, by decide +kernel⟩
theorem sc_is_worth : FnScope ["thing"] ["thing"] (defScope s_is_worth) := ⟨rfl, rfl, rfl, by decide +kernel, rfl, by decide +kernel, by decide +kernel⟩
theorem sc_is_worths : FnScope ["thing", "worth"] ["thing"] (defScope s_is_worths) := ⟨rfl, rfl, rfl, by decide +kernel, rfl, by decide +kernel, by decide +kernel⟩
theorem sc_is_changes : FnScope ["thing", "size", "change"] ["thing", "size"] (defScope s_is_changes) := ⟨rfl, rfl, rfl, by decide +kernel, rfl, by decide +kernel, by decide +kernel⟩
theorem sc__is_change : FnScope ["thing", "size"] ["thing", "size"] (defScope s__is_change) := ⟨rfl, rfl, rfl, by decide +kernel, rfl, by decide +kernel, by decide +kernel⟩
theorem sc__law_cell_at : FnScope ["_law_script", "_law_k"] ["_law_script", "_law_k"] (defScope s__law_cell_at) := ⟨rfl, rfl, rfl, by decide +kernel, rfl, by decide +kernel, by decide +kernel⟩
theorem sc__law_box : FnScope ["_law_cell"] ["_law_cell"] (defScope s__law_box) := ⟨rfl, rfl, rfl, by decide +kernel, rfl, by decide +kernel, by decide +kernel⟩
theorem sc__law_take : FnScope ["_law_box_here", "_law_many", "_law_digit", "_law_number"] ["_law_box_here", "_law_many"] (defScope s__law_take) := ⟨rfl, rfl, rfl, by decide +kernel, rfl, by decide +kernel, by decide +kernel⟩
theorem sc__law_caught : FnScope ["_law_e"] ["_law_e"] (defScope s__law_caught) := ⟨rfl, rfl, rfl, by decide +kernel, rfl, by decide +kernel, by decide +kernel⟩
theorem sc__law_told : FnScope ["_law_lined", "_law_deed", "_law_found", "_law_e"] ["_law_lined", "_law_deed"] (defScope s__law_told) := ⟨rfl, rfl, rfl, by decide +kernel, rfl, by decide +kernel, by decide +kernel⟩
theorem sc__law_seen : FnScope ["_law_lined", "_law_size", "_law_place"] ["_law_lined", "_law_size"] (defScope s__law_seen) := ⟨rfl, rfl, rfl, by decide +kernel, rfl, by decide +kernel, by decide +kernel⟩
theorem sc__law_bad : FnScope ["_law_box_here", "_law_elder", "_law_gone", "_law_size", "_law_way", "_law_place", "_law_worth", "_law_changes", "_law_many", "_law_some"] ["_law_box_here", "_law_elder", "_law_gone", "_law_size"] (defScope s__law_bad) := ⟨rfl, rfl, rfl, by decide +kernel, rfl, by decide +kernel, by decide +kernel⟩
theorem sc__law_bad_right : FnScope ["_law_box_here", "_law_lined", "_law_size", "_law_kept", "_law_elder", "_law_lost", "_law_gone", "_law_seen_here", "_law_deed", "_law_due", "_law_found", "_law_one"] ["_law_box_here", "_law_lined", "_law_size"] (defScope s__law_bad_right) := ⟨rfl, rfl, rfl, by decide +kernel, rfl, by decide +kernel, by decide +kernel⟩
theorem sc__law_ask : FnScope ["_law_rows", "_law_way", "_law_things"] ["_law_rows", "_law_way", "_law_things"] (defScope s__law_ask) := ⟨rfl, rfl, rfl, by decide +kernel, rfl, by decide +kernel, by decide +kernel⟩
theorem sc__law_bad_ask : FnScope ["_law_box_here", "_law_rows", "_law_size", "_law_way", "_law_kept", "_law_lost", "_law_never", "_law_make", "_law_place", "_law_low", "_law_high", "_law_one"] ["_law_box_here", "_law_rows", "_law_size"] (defScope s__law_bad_ask) := ⟨rfl, rfl, rfl, by decide +kernel, rfl, by decide +kernel, by decide +kernel⟩
theorem sc__law_asks_refused : FnScope ["_law_box_here", "_law_rows", "_law_size", "_law_way", "_law_things", "_law_due", "_law_found", "_law_e"] ["_law_box_here", "_law_rows", "_law_size"] (defScope s__law_asks_refused) := ⟨rfl, rfl, rfl, by decide +kernel, rfl, by decide +kernel, by decide +kernel⟩
theorem sc__law_full_right : FnScope ["_law_lined", "_law_size", "_law_elder", "_law_seen_here", "_law_due", "_law_deeds", "_law_deed"] ["_law_lined", "_law_size"] (defScope s__law_full_right) := ⟨rfl, rfl, rfl, by decide +kernel, rfl, by decide +kernel, by decide +kernel⟩
theorem sc_law : FnScope ["_law_script", "_law_size", "_law_lined", "_law_k", "_law_box_here", "_law_newest", "_law_goes", "_law_seen_here", "_law_elder"] ["_law_script"] (defScope s_law) := ⟨rfl, rfl, rfl, by decide +kernel, rfl, by decide +kernel, by decide +kernel⟩
structure Txt (K : PySem.W.Frag) (mg : Str → Option Value) : Prop where
  b_len : mg "len" = none
  b_max : mg "max" = none
  b_min : mg "min" = none
  b_range : mg "range" = none
  b_repr : mg "repr" = none
  b_all : mg "all" = none
  b_enumerate : mg "enumerate" = none
  t_tuple : mg "tuple" = none
  b_isinstance : mg "isinstance" = none
  t_int : mg "int" = none
  t_bool : mg "bool" = none
  t_list : mg "list" = none
  b_sum : mg "sum" = none
  b_zip : mg "zip" = none
  b_sorted : mg "sorted" = none
  b_reversed : mg "reversed" = none
  g_MOST_MAKES : GInt mg "MOST_MAKES" 64
  g_MOST_CHANGES : GInt mg "MOST_CHANGES" 20
  g_MOST_PLACES : GInt mg "MOST_PLACES" 16
  g_MOST_WORTH : GInt mg "MOST_WORTH" (10 ^ 30 - 1)
/-- a class of trees -/
structure TreeC (K : PySem.W.Frag) (C : Addr) : Prop where
  cl : Cls K C
  n_owns : NoAttr K C "_owns"
  n_depths : NoAttr K C "_depths"
  n_on : NoAttr K C "_on"
  n_leaps : NoAttr K C "_leaps"
def fields : List Str := ["_owns", "_depths", "_on", "_leaps"]
def num (j : Nat) : V := .int (j : Nat)
/-! the line of a make -/
def par (ow : List Nat) (i : Nat) : Nat := ow.getD (i - 1) 0
def Low (ow : List Nat) : Prop := ∀ (i j : Nat), ow[i]? = some j → j ≤ i
theorem par_lt {ow : List Nat} (h : Low ow) {i : Nat} (hi : 0 < i) : par ow i < i := by
  unfold par
  rw [List.getD_eq_getElem?_getD]
  cases e : ow[i - 1]? with
  | none =>
    show 0 < i
    exact hi
  | some j =>
    have := h _ _ e
    show j < i
    omega
def lineN (ow : List Nat) : Nat → Nat → List Nat
  | 0, i => [i]
  | f + 1, i => if i = 0 then [0] else lineN ow f (par ow i) ++ [i]
def line (ow : List Nat) (i : Nat) : List Nat := lineN ow i i
theorem lineN_more {ow : List Nat} (h : Low ow) : ∀ (f i : Nat), i ≤ f → lineN ow f i = lineN ow i i := by
  intro f
  induction f using Nat.strongRecOn with
  | _ f ih =>
    intro i hi
    cases f with
    | zero =>
      have e : i = 0 := by omega
      rw [e]
    | succ f =>
      cases i with
      | zero => rfl
      | succ i =>
        have hp := par_lt h (i := i + 1) (by omega)
        show (if i + 1 = 0 then [0] else lineN ow f (par ow (i + 1)) ++ [i + 1]) = (if i + 1 = 0 then [0] else lineN ow i (par ow (i + 1)) ++ [i + 1])
        rw [if_neg (by omega), if_neg (by omega), ih f (by omega) _ (by omega)]
        by_cases e : i < f + 1
        · rw [ih i (by omega) _ (by omega)]
        · omega
theorem line_step {ow : List Nat} (h : Low ow) {i : Nat} (hi : 0 < i) : line ow i = line ow (par ow i) ++ [i] := by
  obtain ⟨j, rfl⟩ : ∃ j, i = j + 1 := ⟨i - 1, by omega⟩
  have hp := par_lt h hi
  show (if j + 1 = 0 then [0] else lineN ow j (par ow (j + 1)) ++ [j + 1]) = _
  rw [if_neg (by omega), lineN_more h j _ (by omega)]
  rfl
theorem line_zero (ow : List Nat) : line ow 0 = [0] := rfl
theorem line_le {ow : List Nat} (h : Low ow) : ∀ (i : Nat), ∀ x ∈ line ow i, x ≤ i := by
  intro i
  induction i using Nat.strongRecOn with
  | _ i ih =>
    intro x hx
    by_cases h0 : 0 < i
    · rw [line_step h h0] at hx
      rcases List.mem_append.mp hx with hx | hx
      · have := ih _ (par_lt h h0) x hx
        have := par_lt h h0
        omega
      · rw [List.mem_singleton.mp hx]
        exact Nat.le_refl _
    · have e : i = 0 := by omega
      subst e
      rw [line_zero] at hx
      rw [List.mem_singleton.mp hx]
      exact Nat.le_refl _
theorem line_len {ow : List Nat} (h : Low ow) : ∀ i : Nat, (line ow i).length ≤ i + 1 := by
  intro i
  induction i using Nat.strongRecOn with
  | _ i ih =>
    by_cases h0 : 0 < i
    · rw [line_step h h0, List.length_append]
      have := ih _ (par_lt h h0)
      have := par_lt h h0
      show _ + 1 ≤ i + 1
      omega
    · have e : i = 0 := by omega
      subst e
      exact Nat.le_refl 1
/-- the last make that stands at the same place of both -/
def nearL (xs ys : List Nat) : Nat := (xs.zip ys).foldl (fun a p => if p.1 = p.2 then p.1 else a) 0
theorem near_snoc {xs ys : List Nat} {a : Nat} (h : a ∉ ys) : nearL (xs ++ [a]) ys = nearL xs ys := by
  have hz : (xs ++ [a]).zip ys = xs.zip ys ++ (match ys[xs.length]? with | some b => [(a, b)] | none => []) := by
    induction xs generalizing ys with
    | nil =>
      cases ys with
      | nil => rfl
      | cons y r => simp
    | cons x r ih =>
      cases ys with
      | nil => simp
      | cons y s =>
        have := ih (ys := s) (fun z => h (List.mem_cons_of_mem _ z))
        simp [this]
  unfold nearL
  rw [hz, List.foldl_append]
  cases e : ys[xs.length]? with
  | none => rfl
  | some b =>
    have hb : b ∈ ys := List.mem_of_getElem? e
    show (if a = b then a else _) = _
    have hab : a ≠ b := fun q => h (by rw [q]; exact hb)
    rw [if_neg hab]
theorem near_comm (xs ys : List Nat) : nearL xs ys = nearL ys xs := by
  unfold nearL
  have : ∀ (xs ys : List Nat) (c : Nat), (xs.zip ys).foldl (fun a p => if p.1 = p.2 then p.1 else a) c = (ys.zip xs).foldl (fun a p => if p.1 = p.2 then p.1 else a) c := by
    intro xs
    induction xs with
    | nil =>
      intro ys c
      simp
    | cons x r ih =>
      intro ys c
      cases ys with
      | nil => simp
      | cons y s =>
        simp only [List.zip_cons_cons, List.foldl_cons]
        rw [ih]
        by_cases e : x = y
        · rw [e]
        · rw [if_neg e, if_neg (fun q => e q.symm)]
  exact this xs ys 0
theorem near_self {ow : List Nat} (h : Low ow) (i : Nat) : nearL (line ow i) (line ow i) = i := by
  have all : ∀ (xs : List Nat) (c a : Nat), ((xs ++ [a]).zip (xs ++ [a])).foldl (fun a p => if p.1 = p.2 then p.1 else a) c = a := by
    intro xs
    induction xs with
    | nil =>
      intro c a
      simp
    | cons x r ih =>
      intro c a
      simp only [List.cons_append, List.zip_cons_cons, List.foldl_cons]
      exact ih _ a
  by_cases h0 : 0 < i
  · rw [line_step h h0]
    exact all _ 0 i
  · have e : i = 0 := by omega
    subst e
    rfl
theorem near_left {ow : List Nat} (h : Low ow) {i j : Nat} (hij : j < i) : nearL (line ow (par ow i)) (line ow j) = nearL (line ow i) (line ow j) := by
  rw [line_step h (by omega : 0 < i), near_snoc]
  intro hm
  have := line_le h j i hm
  omega
theorem near_right {ow : List Nat} (h : Low ow) {i j : Nat} (hij : i < j) : nearL (line ow i) (line ow (par ow j)) = nearL (line ow i) (line ow j) := by
  rw [near_comm, near_left h hij, near_comm]
theorem line_last {ow : List Nat} (h : Low ow) (i : Nat) : ∃ us, line ow i = us ++ [i] ∧ i ∉ us := by
  by_cases h0 : 0 < i
  · refine ⟨line ow (par ow i), line_step h h0, fun hm => ?_⟩
    have := line_le h _ _ hm
    have := par_lt h h0
    omega
  · have e : i = 0 := by omega
    subst e
    exact ⟨[], rfl, fun z => nomatch z⟩
theorem line_pre {ow : List Nat} (h : Low ow) : ∀ (i x : Nat), x ∈ line ow i → ∃ r, line ow i = line ow x ++ r := by
  intro i
  induction i using Nat.strongRecOn with
  | _ i ih =>
    intro x hx
    by_cases e : x = i
    · exact ⟨[], by rw [e, List.append_nil]⟩
    · by_cases h0 : 0 < i
      · rw [line_step h h0] at hx ⊢
        rcases List.mem_append.mp hx with hx | hx
        · obtain ⟨r, hr⟩ := ih _ (par_lt h h0) x hx
          exact ⟨r ++ [i], by rw [hr, List.append_assoc]⟩
        · exact absurd (List.mem_singleton.mp hx) e
      · have e0 : i = 0 := by omega
        subst e0
        rw [line_zero] at hx
        exact absurd (List.mem_singleton.mp hx) e
theorem zero_mem {ow : List Nat} (h : Low ow) : ∀ i : Nat, 0 ∈ line ow i := by
  intro i
  induction i using Nat.strongRecOn with
  | _ i ih =>
    by_cases h0 : 0 < i
    · rw [line_step h h0]
      exact List.mem_append_left _ (ih _ (par_lt h h0))
    · have e : i = 0 := by omega
      subst e
      exact List.mem_cons_self
/-- where a make stands on a line: at its depth, and not ahead -/
theorem line_index {ow : List Nat} (h : Low ow) {i x : Nat} (hx : x ∈ line ow i) : ∃ us r, line ow i = us ++ x :: r ∧ us.length = (line ow x).length - 1 ∧ x ∉ us := by
  obtain ⟨r, hr⟩ := line_pre h i x hx
  obtain ⟨us, hu, hn⟩ := line_last h x
  refine ⟨us, r, ?_, ?_, hn⟩
  · rw [hr, hu, List.append_assoc]
    rfl
  · rw [hu, List.length_append]
    show us.length = us.length + 1 - 1
    omega
/-- how deep each make stands -/
def depths (ow : List Nat) : List Nat := (List.range (ow.length + 1)).map fun i => (line ow i).length - 1
theorem depths_at {ow : List Nat} {i : Nat} (h : i ≤ ow.length) : atI ((depths ow).map num) ((i : Nat) : Int) = some (num ((line ow i).length - 1)) := by
  refine atI_nat ?_
  unfold depths
  rw [List.map_map, List.getElem?_map, List.getElem?_range (by omega)]
  rfl
theorem par_more {ow : List Nat} {k x : Nat} (hx : 0 < x) (h : x ≤ ow.length) : par (ow ++ [k]) x = par ow x := by
  unfold par
  rw [List.getD_eq_getElem?_getD, List.getD_eq_getElem?_getD, List.getElem?_append_left (by omega)]
theorem low_more {ow : List Nat} (h : Low ow) {k : Nat} (hk : k ≤ ow.length) : Low (ow ++ [k]) := by
  intro i j e
  by_cases hi : i < ow.length
  · rw [List.getElem?_append_left hi] at e
    exact h i j e
  · rw [List.getElem?_append_right (by omega)] at e
    by_cases h0 : i - ow.length = 0
    · rw [h0] at e
      have : k = j := Option.some.inj e
      omega
    · rw [List.getElem?_eq_none (by show 1 ≤ _; omega)] at e
      cases e
theorem line_more {ow : List Nat} (h : Low ow) {k : Nat} (hk : k ≤ ow.length) : ∀ x : Nat, x ≤ ow.length → line (ow ++ [k]) x = line ow x := by
  intro x
  induction x using Nat.strongRecOn with
  | _ x ih =>
    intro hx
    by_cases h0 : 0 < x
    · have := par_lt h h0
      rw [line_step (low_more h hk) h0, line_step h h0, par_more h0 hx, ih _ this (by omega)]
    · have e : x = 0 := by omega
      subst e
      rfl
theorem line_new {ow : List Nat} (h : Low ow) {k : Nat} (hk : k ≤ ow.length) : line (ow ++ [k]) (ow.length + 1) = line ow k ++ [ow.length + 1] := by
  have hp : par (ow ++ [k]) (ow.length + 1) = k := by
    unfold par
    rw [List.getD_eq_getElem?_getD, Nat.add_sub_cancel, List.getElem?_append_right (Nat.le_refl _), Nat.sub_self]
    rfl
  rw [line_step (low_more h hk) (by omega), hp, line_more h hk _ hk]
theorem depths_more {ow : List Nat} (h : Low ow) {k : Nat} (hk : k ≤ ow.length) : depths (ow ++ [k]) = depths ow ++ [(line ow k).length] := by
  unfold depths
  rw [List.length_append, show ow.length + [k].length + 1 = (ow.length + 1) + 1 from rfl, List.range_succ, List.map_append]
  congr 1
  · refine List.map_congr_left fun x hx => ?_
    rw [line_more h hk x (by have := List.mem_range.mp hx; omega)]
  · show [(line (ow ++ [k]) (ow.length + 1)).length - 1] = _
    rw [line_new h hk, List.length_append]
    rfl
theorem cut_from (xs : List V) (k : Nat) : cutV xs (some (k : Int)) none = xs.drop k := by
  unfold cutV
  rw [HT.sIx_nat, HT.sIx_none]
  by_cases h : k ≤ xs.length
  · rw [Nat.min_eq_left h]
    have := List.take_length (l := xs.drop k)
    rw [List.length_drop] at this
    exact this
  · rw [Nat.min_eq_right (by omega), List.drop_eq_nil_of_le (by omega : xs.length ≤ k), List.drop_length]
    exact List.take_nil
/-- a tree of the class C at t: the own makes of 1, 2, .. and how deep each stands -/
structure Tr (H : Hp) (t C : Addr) (ow ds : List Nat) : Prop where
  ex : ∃ (dx o d n : Addr) (fs : List (Str × V)), H t = some (.ins C dx fs) ∧ fs.lookup ("_owns" : Str) = some (.ref o) ∧ fs.lookup ("_depths" : Str) = some (.ref d) ∧ fs.lookup ("_on" : Str) = some (.ref n) ∧
    (∀ m, m ∉ fields → fs.lookup m = none) ∧ H o = some (.lst (.non :: ow.map num)) ∧ H d = some (.lst (ds.map num)) ∧ fs.length < 1000
  low : ∀ (i j : Nat), ow[i]? = some j → j ≤ i
  few : ow.length ≤ 63
  deep : ds = depths ow
section
variable {P : Program} {w : World} {K : PySem.W.Frag} {mg : Str → Option Value} {base : Heap} {C : Addr}
/-- a method of the class at C, by its name and its place in the text -/
structure MAt (K : PySem.W.Frag) (C : Addr) (m qual : Str) (st : Stmt) (ps : List Str) : Prop where
  ex : ∃ (f : Addr) (fd : FuncData), Fun K m qual st f fd ∧ Meth K C m f ∧ Binds K fd ps []
theorem MAt.met {m qual : Str} {st : Stmt} {N ps : List Str} {k : Nat} {sp : Sp} (M : MAt K C m qual st ps) (cl : Cls K C) (S : FnScope N ps (defScope st))
    (ar : ∀ vs H Q E, sp vs H Q E → vs.length = ps.length)
    (bd : ∀ (f : Addr) (cdv : Value) (A : Around) (outer : List Env) (s : Shared) (H : Hp) (vs : List V) (Q : VK) (E : XK), Room k (A.deeper (envOfC qual (defScope st) s.heap.objs.size f cdv)) → sp vs H Q E →
      ∃ t, PSs (cxOf CX0 P w K mg base N qual (defScope st) f cdv A outer s H E).nox (defBody st) t ∧ t { nx := fun _ H' => Q .non H', rt := Q } (start N vs) H) : Met P w K mg base (k + 1) C m sp [] := by
  obtain ⟨f, fd, F, me, b⟩ := M.ex
  exact ⟨f, fd, ps, [], cl, me, F.ok S ar (bd f), b, .nil⟩
def spMany (C : Addr) : Sp := fun vs H Q _ => ∃ (t : Addr) (ow ds : List Nat), vs = [.ref t] ∧ Tr H t C ow ds ∧ Q (.int ((ow.length + 1 : Nat) : Int)) H
theorem ok_many (T : Txt K mg) (TC : TreeC K C) (M : MAt K C "many" "MakeTree.many" s_MakeTree_many ["self"]) : Met P w K mg base 1 C "many" (spMany C) [] := by
  refine M.met TC.cl sc_MakeTree_many (fun vs H Q E h => ?_) (fun f cdv A outer s H vs Q E hr h => ?_)
  · obtain ⟨t, ow, ds, rfl, _⟩ := h
    rfl
  · obtain ⟨t, ow, ds, rfl, tr, q⟩ := h
    obtain ⟨dx, o, d, n, fs, e1, l1, l2, l3, lo, e2, e3, lf⟩ := tr.ex
    refine ⟨_, (pss_one (ps_ret (pe_callB call_len (by rfl) T.b_len boot_len_ (pa_cons (pe_fld (pv 0) rfl) pa_nil)))), ?_⟩
    refine ⟨_, rfl, t, C, dx, fs, .ref o, rfl, e1, TC.cl, TC.n_owns, l1, .ref o, (V.non :: ow.map num).length, rfl, .inl ⟨_, SqL.of e2, rfl⟩, ?_⟩
    have e : (V.non :: ow.map num).length = ow.length + 1 := by rw [List.length_cons, List.length_map]
    rw [e]
    exact q
def spWhI : Sp := fun vs H Q _ => ∃ n lo hi : Int, vs = [.int n, .int lo, .int hi] ∧ lo ≤ n ∧ n ≤ hi ∧ Q (.bl true) H
theorem ok_whI (T : Txt K mg) (D : DefAt K mg "is_whole" s_is_whole ["thing", "low", "high"]) : C8.Cal P w K mg base 1 "is_whole" spWhI [] := by
  obtain ⟨f, fd, F, m, b⟩ := D.ex
  refine ⟨f, fd, _, [], F.ok sc_is_whole (fun vs H Q E h => ?_) (fun cdv A outer s H vs Q E hr h => ?_), m, F.kp, b, .nil⟩
  · obtain ⟨n, lo, hi, rfl, _⟩ := h
    rfl
  · obtain ⟨n, lo, hi, rfl, h1, h2, q⟩ := h
    refine ⟨_, (pss_one (ps_ret (pe_and (pe_callB call_isi (by rfl) T.b_isinstance boot_isinstance_ (pa_cons (pv 0) (pa_cons (pe_bltn (v := .ty "int") (by rfl) T.t_int boot_int_ rfl) pa_nil))) (pe_and (pe_not (pe_callB call_isi (by rfl) T.b_isinstance boot_isinstance_ (pa_cons (pv 0) (pa_cons (pe_bltn (v := .ty "bool") (by rfl) T.t_bool boot_bool_ rfl) pa_nil)))) (pe_one (pe_chain op_le op_le (pv 1) (pv 0) (pv 2))))))), ?_⟩
    have ty := tyD (K := K) (H := H) (D1.dp (Dp.int n))
    refine ⟨_, rfl, .int n, .ty "int", _, .type "int", _, rfl, .ty _, ty, kInt (.int n), _, rfl, ?_⟩
    refine iteT ?_
    refine ⟨_, rfl, _, .ty "bool", _, .type "bool", _, rfl, .ty _, ty, kBool _, _, rfl, _, rfl, ?_⟩
    refine iteT ?_
    refine ⟨_, rfl, _, rfl, _, _, rfl, rfl, _, rfl, ?_⟩
    rw [decide_eq_true h1]
    refine iteT ⟨_, rfl, _, _, rfl, rfl, ?_⟩
    show Q (.bl (decide (n ≤ hi))) H
    rw [decide_eq_true h2]
    exact q
def spNeed (C : Addr) : Sp := fun vs H Q _ => ∃ (t : Addr) (ow ds : List Nat) (i : Nat), vs = [.ref t, num i] ∧ Tr H t C ow ds ∧ i ≤ ow.length ∧ Q .non H
theorem ok_need (T : Txt K mg) (TC : TreeC K C) (c_is_whole : C8.Cal P w K mg base 1 "is_whole" spWhI []) (m_many : Met P w K mg base 1 C "many" (spMany C) []) (M : MAt K C "_need_make" "MakeTree._need_make" s_MakeTree__need_make ["self", "make"]) :
    Met P w K mg base 2 C "_need_make" (spNeed C) [] := by
  refine M.met TC.cl sc_MakeTree__need_make (fun vs H Q E h => ?_) (fun f cdv A outer s H vs Q E hr h => ?_)
  · obtain ⟨t, ow, ds, i, rfl, _⟩ := h
    rfl
  · obtain ⟨t, ow, ds, i, rfl, tr, hi, q⟩ := h
    obtain ⟨dx, o, d, n, fs, e1, l1, l2, l3, lo, e2, e3, lf⟩ := tr.ex
    refine ⟨_, (pss_one (ps_if (pt_not (pt_val (C8.pe_c c_is_whole hr (by decide) (by rfl) (pa_cons (pv 1) (pa_cons pe_int (pa_cons (pe_op op_sub (pe_mt0 m_many hr (by decide) (pv 0)) pe_int) pa_nil))))))
          (pss_one ps_never) pss_nil)), ?_⟩
    have nl := lo
    refine ⟨_, rfl, _, rfl, t, dx, fs, rfl, e1, nl _ (by decide), t, ow, ds, rfl, tr, _, _, rfl, rfl, ?_⟩
    refine ⟨(i : Nat), 0, ((ow.length + 1 : Nat) : Int) - 1, rfl, by omega, by omega, ?_⟩
    exact ⟨_, rfl, iteF q⟩
theorem at_own {ow : List Nat} {i : Nat} (h0 : 0 < i) (h1 : i ≤ ow.length) : atI (V.non :: ow.map num) ((i : Nat) : Int) = some (num (par ow i)) := by
  refine atI_nat ?_
  obtain ⟨j, rfl⟩ : ∃ j, i = j + 1 := ⟨i - 1, by omega⟩
  rw [List.getElem?_cons_succ, List.getElem?_map]
  have hj : j < ow.length := by omega
  unfold par
  rw [List.getD_eq_getElem?_getD, Nat.add_sub_cancel, List.getElem?_eq_getElem hj]
  rfl
theorem none_of {H H' : Hp} {p : Addr} (sm : Same H H') (h : H' p = none) : H p = none := by
  cases z : H p with
  | none => rfl
  | some u =>
    have z2 := sm _ _ z
    rw [h] at z2
    cases z2
theorem near_mem (xs ys : List Nat) : nearL xs ys = 0 ∨ nearL xs ys ∈ xs := by
  unfold nearL
  have all : ∀ (xs ys : List Nat) (c : Nat), (xs.zip ys).foldl (fun a p => if p.1 = p.2 then p.1 else a) c = c ∨ (xs.zip ys).foldl (fun a p => if p.1 = p.2 then p.1 else a) c ∈ xs := by
    intro xs
    induction xs with
    | nil =>
      intro ys c
      exact .inl (by simp)
    | cons x r ih =>
      intro ys c
      cases ys with
      | nil => exact .inl (by simp)
      | cons y s =>
        simp only [List.zip_cons_cons, List.foldl_cons]
        by_cases e : x = y
        · rw [if_pos e]
          rcases ih s x with h | h
          · exact .inr (by rw [h]; exact List.mem_cons_self)
          · exact .inr (List.mem_cons_of_mem _ h)
        · rw [if_neg e]
          rcases ih s c with h | h
          · exact .inl h
          · exact .inr (List.mem_cons_of_mem _ h)
  exact all xs ys 0
theorem near_on {ow : List Nat} (h : Low ow) (i j : Nat) : nearL (line ow i) (line ow j) ∈ line ow i := by
  rcases near_mem (line ow i) (line ow j) with e | e
  · rw [e]
    exact zero_mem h i
  · exact e
theorem near_on2 {ow : List Nat} (h : Low ow) (i j : Nat) : nearL (line ow i) (line ow j) ∈ line ow j := by
  rw [near_comm]
  exact near_on h j i
theorem near_le {ow : List Nat} (h : Low ow) (i j : Nat) : nearL (line ow i) (line ow j) ≤ i := by
  rcases near_mem (line ow i) (line ow j) with e | e
  · omega
  · exact line_le h i _ e
theorem Tr.same {H H' : Hp} {t C : Addr} {ow ds : List Nat} (tr : Tr H t C ow ds) (sm : Same H H') : Tr H' t C ow ds := by
  obtain ⟨dx, o, d, n, fs, e1, l1, l2, l3, nl, e2, e3, lf⟩ := tr.ex
  exact ⟨⟨dx, o, d, n, fs, sm _ _ e1, l1, l2, l3, nl, sm _ _ e2, sm _ _ e3, lf⟩, tr.low, tr.few, tr.deep⟩
/-- the makes that were put on a make, rising -/
def kids (ow : List Nat) (i : Nat) : List Nat := ((List.range ow.length).filter fun n => decide (ow[n]? = some i)).map fun n => n + 1
theorem kids_len (ow : List Nat) (i : Nat) : (kids ow i).length ≤ ow.length := by
  unfold kids
  rw [List.length_map]
  have h := List.length_filter_le (fun n => decide (ow[n]? = some i)) (List.range ow.length)
  rw [List.length_range] at h
  exact h
theorem kids_more (ow : List Nat) (k i : Nat) : kids (ow ++ [k]) i = kids ow i ++ (if i = k then [ow.length + 1] else []) := by
  unfold kids
  rw [List.length_append, show ow.length + [k].length = ow.length + 1 from rfl, List.range_succ, List.filter_append, List.map_append]
  have e1 : (List.range ow.length).filter (fun n => decide ((ow ++ [k])[n]? = some i)) = (List.range ow.length).filter fun n => decide (ow[n]? = some i) := by
    refine List.filter_congr fun n hn => ?_
    rw [List.getElem?_append_left (List.mem_range.mp hn)]
  rw [e1]
  congr 1
  have e2 : (ow ++ [k])[ow.length]? = some k := by
    rw [List.getElem?_append_right (Nat.le_refl _), Nat.sub_self]
    rfl
  rw [List.filter_cons, List.filter_nil, e2]
  by_cases e : i = k
  · rw [if_pos e, if_pos (decide_eq_true (by rw [e]))]
    rfl
  · rw [if_neg e, if_neg (by simp only [decide_eq_true_eq]; exact fun z => e (Option.some.inj z).symm)]
    rfl
theorem kids_new {ow : List Nat} (h : Low ow) {i : Nat} (hi : ow.length ≤ i) : kids ow i = [] := by
  unfold kids
  rw [List.filter_eq_nil_iff.mpr, List.map_nil]
  intro n hn e
  have e2 : ow[n]? = some i := of_decide_eq_true e
  have := h n i e2
  have := List.mem_range.mp hn
  omega
/-- a tree with what is its own: nothing outside N is written -/
structure Tw (N : Addr → Prop) (H : Hp) (t C : Addr) (ow : List Nat) : Prop where
  ex : ∃ (dx o d n : Addr) (fs : List (Str × V)) (ns : List Addr), H t = some (.ins C dx fs) ∧ fs.lookup ("_owns" : Str) = some (.ref o) ∧ fs.lookup ("_depths" : Str) = some (.ref d) ∧ fs.lookup ("_on" : Str) = some (.ref n) ∧
    (∀ m, m ∉ fields → fs.lookup m = none) ∧ H o = some (.lst (.non :: ow.map num)) ∧ H d = some (.lst ((depths ow).map num)) ∧ H n = some (.lst (ns.map V.ref)) ∧ fs.length < 1000 ∧
    ns.length = ow.length + 1 ∧ o ≠ d ∧ o ≠ n ∧ d ≠ n ∧ (∀ (i : Nat) (a : Addr), ns[i]? = some a → H a = some (.lst ((kids ow i).map num)) ∧ a ≠ o ∧ a ≠ d ∧ a ≠ n ∧ N a) ∧ (∀ (i j : Nat) (a : Addr), ns[i]? = some a → ns[j]? = some a → i = j) ∧ N o ∧ N d ∧ N n
  low : Low ow
  few : ow.length ≤ 63
theorem Tw.tr {N : Addr → Prop} {H : Hp} {t C : Addr} {ow : List Nat} (w : Tw N H t C ow) : Tr H t C ow (depths ow) := by
  obtain ⟨dx, o, d, n, fs, ns, e1, l1, l2, l3, nl, e2, e3, e4, lf, _⟩ := w.ex
  exact ⟨⟨dx, o, d, n, fs, e1, l1, l2, l3, nl, e2, e3, lf⟩, w.low, w.few, rfl⟩
def spGrow (C : Addr) : Sp := fun vs H Q _ => ∃ (t : Addr) (ow : List Nat) (i : Nat) (N : Addr → Prop), vs = [.ref t, num i] ∧ Tw N H t C ow ∧ i ≤ ow.length ∧ ow.length < 63 ∧
  ∀ (H' : Hp) (N' : Addr → Prop), Tw N' H' t C (ow ++ [i]) → (∀ c u, ¬ N c → H c = some u → H' c = some u) → (∀ c, N' c → N c ∨ H c = none) → Q (num (ow.length + 1)) H'
theorem fn_grow {f : Addr} {fd : FuncData} (T : Txt K mg) (TC : TreeC K C) (m_many : Met P w K mg base 1 C "many" (spMany C) []) (m__need_make : Met P w K mg base 2 C "_need_make" (spNeed C) []) (F : Fun K "grow" "MakeTree.grow" s_MakeTree_grow f fd) :
    FnOk P w K mg base CX0 3 f fd ["self", "make"] (spGrow C) := by
  refine F.ok sc_MakeTree_grow (fun vs H Q E h => ?_) (fun cdv A outer s H vs Q E hr h => ?_)
  · obtain ⟨t, ow, i, N, rfl, _⟩ := h
    rfl
  · obtain ⟨t, ow, i, N, rfl, tw, hi, hf, q⟩ := h
    obtain ⟨dx, o, d, n, fs, ns, e1, l1, l2, l3, nl, e2, e3, e4, lf, hns, od, on, dn, hin, hnd, No, Nd, Nn⟩ := tw.ex
    refine ⟨_, (pss_cons (ps_expr (pe_mt m__need_make hr (by decide) (pv 0) (pa_cons (pv 1) pa_nil)))
      (pss_cons (ps_set (i := 2) sc_MakeTree_grow.nd rfl (Or.inl rfl) (pe_mt0 m_many hr (by decide) (pv 0)))
      (pss_cons (ps_if (pt_cmpR op_ge (pv 2) (pe_gi rfl T.g_MOST_MAKES) (nomark _))
          (pss_one ps_never) pss_nil)
      (pss_cons (ps_expr (pe_bm PySem.F.plainAttrs_list PySem.F.slot_list_append PySem.F.type_list_append mt_append (pe_fld (pv 0) rfl) (pa_cons (pv 1) pa_nil)))
      (pss_cons (ps_expr (pe_bm PySem.F.plainAttrs_list PySem.F.slot_list_append PySem.F.type_list_append mt_append (pe_fld (pv 0) rfl) (pa_cons (pe_op op_add (pe_ix ix_list (pe_fld (pv 0) rfl) (pv 1) (fun _ _ => rfl)) pe_int) pa_nil)))
      (pss_cons (ps_expr (pe_bm PySem.F.plainAttrs_list PySem.F.slot_list_append PySem.F.type_list_append mt_append (pe_fld (pv 0) rfl) (pa_cons (pe_lst pa_nil) pa_nil)))
      (pss_cons (ps_expr (pe_bm PySem.F.plainAttrs_list PySem.F.slot_list_append PySem.F.type_list_append mt_append (pe_ix ix_list (pe_fld (pv 0) rfl) (pv 1) (fun _ _ => rfl)) (pa_cons (pv 2) pa_nil)))
      (pss_one (ps_ret (pv 2)))))))))), ?_⟩
    refine ⟨_, rfl, t, dx, fs, rfl, e1, nl _ (by decide), _, rfl, t, ow, _, i, rfl, tw.tr, hi, ?_⟩
    refine ⟨_, rfl, t, dx, fs, rfl, e1, nl _ (by decide), t, ow, _, rfl, tw.tr, ?_⟩
    refine ⟨_, rfl, _, _, rfl, rfl, _, rfl, ?_⟩
    have hlt : ¬ ((64 : Int) ≤ ((ow.length + 1 : Nat) : Int)) := by omega
    rw [show decide ((64 : Int) ≤ ((ow.length + 1 : Nat) : Int)) = false from decide_eq_false hlt]
    refine iteF ?_
    have hto : t ≠ o := fun e => by rw [e, e2] at e1; cases e1
    have htd : t ≠ d := fun e => by rw [e, e3] at e1; cases e1
    have htn : t ≠ n := fun e => by rw [e, e4] at e1; cases e1
    have len1 : (V.non :: ow.map num).length < sizeLine := small1000 (by rw [List.length_cons, List.length_map]; omega)
    have len2 : ((depths ow).map num).length < sizeLine := small1000 (by unfold depths; rw [List.length_map, List.length_map, List.length_range]; omega)
    have len3 : (ns.map V.ref).length < sizeLine := small1000 (by rw [List.length_map]; omega)
    refine ⟨_, rfl, t, C, dx, fs, .ref o, rfl, e1, TC.cl, TC.n_owns, l1, .inl ⟨rfl, _, SqL.of e2⟩, _, rfl, o, _, _, rfl, rfl, e2, len1, ?_⟩
    have f1 : (upd H o (.lst ((V.non :: ow.map num) ++ [num i]))) t = some (.ins C dx fs) := (upd_ne hto).trans e1
    have f3 : (upd H o (.lst ((V.non :: ow.map num) ++ [num i]))) d = some (.lst ((depths ow).map num)) := (upd_ne od.symm).trans e3
    refine ⟨_, rfl, t, C, dx, fs, .ref d, rfl, f1, TC.cl, TC.n_depths, l2, .inl ⟨rfl, _, SqL.of f3⟩, _, rfl, t, C, dx, fs, .ref d, rfl, f1, TC.cl, TC.n_depths, l2, _, rfl, d, _, _, _, rfl, rfl, SqL.of f3, depths_at hi, _, _, rfl, rfl, d, _, _, rfl, rfl, f3, len2, ?_⟩
    have hpos : 0 < (line ow i).length := by
      obtain ⟨us, hu, _⟩ := line_last tw.low i
      rw [hu, List.length_append]
      exact Nat.succ_pos _
    have ev : (V.int ((((line ow i).length - 1 : Nat) : Int) + 1)) = num (line ow i).length := by
      show V.int _ = V.int _
      congr 1
      omega
    show (fun H2 => _) (upd (upd H o (.lst ((V.non :: ow.map num) ++ [num i]))) d (.lst ((depths ow).map num ++ [V.int ((((line ow i).length - 1 : Nat) : Int) + 1)])))
    rw [ev]
    have g_o : (upd (upd H o (.lst ((V.non :: ow.map num) ++ [num i]))) d (.lst ((depths ow).map num ++ [num (line ow i).length]))) o = some (.lst (.non :: (ow ++ [i]).map num)) := by
      rw [upd_ne od, upd_same, List.map_append]
      rfl
    have g_d : (upd (upd H o (.lst ((V.non :: ow.map num) ++ [num i]))) d (.lst ((depths ow).map num ++ [num (line ow i).length]))) d = some (.lst ((depths (ow ++ [i])).map num)) := by
      rw [upd_same, depths_more tw.low hi, List.map_append]
      rfl
    have g_k : ∀ c u, c ≠ o → c ≠ d → H c = some u → (upd (upd H o (.lst ((V.non :: ow.map num) ++ [num i]))) d (.lst ((depths ow).map num ++ [num (line ow i).length]))) c = some u := fun c u h1 h2 z => by
      rw [upd_ne h2, upd_ne h1]
      exact z
    have g_n : ∀ c, (upd (upd H o (.lst ((V.non :: ow.map num) ++ [num i]))) d (.lst ((depths ow).map num ++ [num (line ow i).length]))) c = none → H c = none := fun c z => upd_none (upd_none z)
    generalize upd (upd H o (.lst ((V.non :: ow.map num) ++ [num i]))) d (.lst ((depths ow).map num ++ [num (line ow i).length])) = H2 at *
    have h2t := g_k _ _ hto htd e1
    have h2n := g_k _ _ on.symm dn.symm e4
    refine ⟨_, rfl, t, C, dx, fs, .ref n, rfl, h2t, TC.cl, TC.n_on, l3, .inl ⟨rfl, _, SqL.of h2n⟩, (by show 0 ≤ sizeLine; decide), fun p hp => ?_⟩
    refine ⟨n, _, _, rfl, rfl, kep h2n hp, len3, ?_⟩
    have hpo : p ≠ o := fun e => by rw [e, g_o] at hp; cases hp
    have hpd : p ≠ d := fun e => by rw [e, g_d] at hp; cases hp
    have hpn : p ≠ n := fun e => by rw [e, h2n] at hp; cases hp
    have hpt : p ≠ t := fun e => by rw [e, h2t] at hp; cases hp
    have hi2 : i < ns.length := by omega
    obtain ⟨b, hb⟩ : ∃ b, ns[i]? = some b := ⟨_, List.getElem?_eq_getElem hi2⟩
    obtain ⟨hks, bo, bd, bn, Nb⟩ := hin i b hb
    have hkl := kids_len ow i
    have hbt : b ≠ t := fun e => by rw [e, e1] at hks; cases hks
    have h2b := g_k _ _ bo bd hks
    have hbp : b ≠ p := fun e => by rw [e, hp] at h2b; cases h2b
    have h3n : (upd (upd H2 p (.lst [])) n (.lst (ns.map V.ref ++ [V.ref p]))) n = some (.lst ((ns ++ [p]).map V.ref)) := by
      rw [upd_same, List.map_append]
      rfl
    have h3t : (upd (upd H2 p (.lst [])) n (.lst (ns.map V.ref ++ [V.ref p]))) t = some (.ins C dx fs) := by
      rw [upd_ne htn, upd_ne hpt.symm]
      exact h2t
    have h3b : (upd (upd H2 p (.lst [])) n (.lst (ns.map V.ref ++ [V.ref p]))) b = some (.lst ((kids ow i).map num)) := by
      rw [upd_ne bn, upd_ne hbp]
      exact h2b
    have h3p : (upd (upd H2 p (.lst [])) n (.lst (ns.map V.ref ++ [V.ref p]))) p = some (.lst []) := by
      rw [upd_ne hpn, upd_same]
    have h3k : ∀ c u, c ≠ n → c ≠ p → H2 c = some u → (upd (upd H2 p (.lst [])) n (.lst (ns.map V.ref ++ [V.ref p]))) c = some u := fun c u h1 h2 z => by
      rw [upd_ne h1, upd_ne h2]
      exact z
    generalize upd (upd H2 p (.lst [])) n (.lst (ns.map V.ref ++ [V.ref p])) = H3 at *
    have hat : atI ((ns ++ [p]).map V.ref) ((i : Nat) : Int) = some (V.ref b) := by
      refine atI_nat ?_
      rw [List.getElem?_map, List.getElem?_append_left hi2, hb]
      rfl
    refine ⟨_, rfl, t, C, dx, fs, .ref n, rfl, h3t, TC.cl, TC.n_on, l3, _, rfl, n, _, _, _, rfl, rfl, SqL.of h3n, hat, .inl ⟨rfl, _, SqL.of h3b⟩, _, rfl, b, _, _, rfl, rfl, h3b, small1000 (by rw [List.length_map]; omega), ?_⟩
    refine ⟨_, rfl, q _ (fun c => N c ∨ c = p) ⟨⟨dx, o, d, n, fs, ns ++ [p], ?_, l1, l2, l3, nl, ?_, ?_, ?_, lf, ?_, od, on, dn, fun j c hc => ?_, fun j k c h1 h2 => ?_, .inl No, .inl Nd, .inl Nn⟩, low_more tw.low hi, ?_⟩ (fun c u hc z => ?_) fun c hc => ?_⟩
    · rw [upd_ne hbt.symm]
      exact h3t
    · rw [upd_ne bo.symm]
      exact h3k _ _ on hpo.symm g_o
    · rw [upd_ne bd.symm]
      exact h3k _ _ dn hpd.symm g_d
    · rw [upd_ne bn.symm]
      exact h3n
    · rw [List.length_append, List.length_append, hns]
      rfl
    · by_cases hj : j < ns.length
      · rw [List.getElem?_append_left hj] at hc
        obtain ⟨hls, co, cd, cn, Nc⟩ := hin j c hc
        refine ⟨?_, co, cd, cn, .inl Nc⟩
        rw [kids_more]
        by_cases e : j = i
        · subst e
          rw [hb] at hc
          cases hc
          rw [if_pos rfl, List.map_append]
          exact upd_same
        · have ecb : c ≠ b := fun z => e (hnd j i c hc (z ▸ hb))
          rw [if_neg e, List.append_nil, upd_ne ecb]
          have h2c := g_k _ _ co cd hls
          exact h3k _ _ cn (fun z => by rw [z, hp] at h2c; cases h2c) h2c
      · rw [List.getElem?_append_right (by omega)] at hc
        by_cases h0 : j - ns.length = 0
        · rw [h0] at hc
          cases (show some p = some c from hc)
          refine ⟨?_, hpo, hpd, hpn, .inr rfl⟩
          rw [kids_more, if_neg (by omega), List.append_nil, kids_new tw.low (i := j) (by omega), upd_ne hbp.symm]
          exact h3p
        · rw [List.getElem?_eq_none (by show 1 ≤ _; omega)] at hc
          cases hc
    · have old : ∀ (j : Nat) (c : Addr), ns[j]? = some c → c ≠ p := fun j c hc z => by
        obtain ⟨hls, co, cd, cn, Nc⟩ := hin j c hc
        have h2c := g_k _ _ co cd hls
        rw [z, hp] at h2c
        cases h2c
      have at_ : ∀ (j : Nat) (c : Addr), (ns ++ [p])[j]? = some c → (j < ns.length ∧ ns[j]? = some c) ∨ (j = ns.length ∧ c = p) := fun j c hc => by
        by_cases hj : j < ns.length
        · rw [List.getElem?_append_left hj] at hc
          exact .inl ⟨hj, hc⟩
        · rw [List.getElem?_append_right (by omega)] at hc
          by_cases h0 : j - ns.length = 0
          · rw [h0] at hc
            exact .inr ⟨by omega, (Option.some.inj hc).symm⟩
          · rw [List.getElem?_eq_none (by show 1 ≤ _; omega)] at hc
            cases hc
      rcases at_ j c h1 with ⟨a1, a2⟩ | ⟨a1, a2⟩
      · rcases at_ k c h2 with ⟨b1, b2⟩ | ⟨b1, b2⟩
        · exact hnd j k c a2 b2
        · exact absurd b2 (old j c a2)
      · rcases at_ k c h2 with ⟨b1, b2⟩ | ⟨b1, b2⟩
        · exact absurd a2 (old k c b2)
        · omega
    · rw [List.length_append]
      show ow.length + 1 ≤ 63
      omega
    · have c1 : c ≠ o := fun e => hc (e ▸ No)
      have c2 : c ≠ d := fun e => hc (e ▸ Nd)
      have c3 : c ≠ n := fun e => hc (e ▸ Nn)
      have c4 : c ≠ b := fun e => hc (e ▸ Nb)
      have h2c := g_k _ _ c1 c2 z
      rw [upd_ne c4]
      exact h3k _ _ c3 (fun z => by rw [z, hp] at h2c; cases h2c) h2c
    · rcases hc with hc | hc
      · exact .inl hc
      · rw [hc]
        exact .inr (g_n _ hp)
theorem ok_grow (T : Txt K mg) (TC : TreeC K C) (m_many : Met P w K mg base 1 C "many" (spMany C) []) (m__need_make : Met P w K mg base 2 C "_need_make" (spNeed C) []) (M : MAt K C "grow" "MakeTree.grow" s_MakeTree_grow ["self", "make"]) :
    Met P w K mg base 3 C "grow" (spGrow C) [] := by
  obtain ⟨f, fd, F, me, b⟩ := M.ex
  exact ⟨f, fd, _, [], TC.cl, me, fn_grow T TC m_many m__need_make F, b, .nil⟩
def spInit (C : Addr) : Sp := fun vs H Q _ => ∃ (t dx : Addr), vs = [.ref t] ∧ H t = some (.ins C dx []) ∧
  ∀ (H' : Hp) (N' : Addr → Prop), Tw N' H' t C [] → (∃ fs, H' t = some (.ins C dx fs) ∧ fs.length ≤ 3 ∧ fs.lookup ("_leaps" : Str) = none) → (∀ c u, c ≠ t → H c = some u → H' c = some u) → (∀ c, N' c → H c = none) → Q .non H'
theorem fn_init {f : Addr} {fd : FuncData} (T : Txt K mg) (TC : TreeC K C) (F : Fun K "__init__" "MakeTree.__init__" s_MakeTree___init__ f fd) : FnOk P w K mg base CX0 1 f fd ["self"] (spInit C) := by
  refine F.ok sc_MakeTree___init__ (fun vs H Q E h => ?_) (fun cdv A outer s H vs Q E hr h => ?_)
  · obtain ⟨t, dx, rfl, _⟩ := h
    rfl
  · obtain ⟨t, dx, rfl, e1, q⟩ := h
    refine ⟨_, (pss_cons (ps_fld (pv 0) (pe_lst (pa_cons pe_non pa_nil)) rfl)
      (pss_cons (ps_fld (pv 0) (pe_lst (pa_cons pe_int pa_nil)) rfl)
      (pss_one (ps_fld (pv 0) (pe_lst (pa_cons (pe_lst pa_nil) pa_nil)) rfl)))), ?_⟩
    refine ⟨(by show 1 ≤ sizeLine; decide), fun o ho => ?_⟩
    have hto : t ≠ o := fun e => by rw [← e, e1] at ho; cases ho
    refine ⟨_, rfl, t, C, dx, [], rfl, kep e1 ho, TC.cl, TC.n_owns, by decide, ?_⟩
    have k1 : ∀ c u, c ≠ t → H c = some u → (upd (upd H o (.lst [V.non])) t (.ins C dx (putF "_owns" (.ref o) []))) c = some u := fun c u h z => by
      rw [upd_ne h]
      exact kep z ho
    have n1 : ∀ c, (upd (upd H o (.lst [V.non])) t (.ins C dx (putF "_owns" (.ref o) []))) c = none → H c = none := fun c z => upd_none (upd_none z)
    have a1t : (upd (upd H o (.lst [V.non])) t (.ins C dx (putF "_owns" (.ref o) []))) t = some (.ins C dx (putF "_owns" (.ref o) [])) := upd_same
    have a1o : (upd (upd H o (.lst [V.non])) t (.ins C dx (putF "_owns" (.ref o) []))) o = some (.lst [V.non]) := by
      rw [upd_ne hto.symm, upd_same]
    generalize hA1 : upd (upd H o (.lst [V.non])) t (.ins C dx (putF "_owns" (.ref o) [])) = A1 at *
    refine ⟨(by show 1 ≤ sizeLine; decide), fun d hd => ?_⟩
    have htd : t ≠ d := fun e => by rw [← e, a1t] at hd; cases hd
    have hod : o ≠ d := fun e => by rw [← e, a1o] at hd; cases hd
    have p1 : (putF "_owns" (.ref o) ([] : List (Str × V))).length ≤ 1 := length_putF _ _ _
    refine ⟨_, rfl, t, C, dx, _, rfl, kep a1t hd, TC.cl, TC.n_depths, Nat.lt_of_le_of_lt p1 (by decide), ?_⟩
    have k2 : ∀ c u, c ≠ t → A1 c = some u → (upd (upd A1 d (.lst [V.int 0])) t (.ins C dx (putF "_depths" (.ref d) (putF "_owns" (.ref o) [])))) c = some u := fun c u h z => by
      rw [upd_ne h]
      exact kep z hd
    have n2 : ∀ c, (upd (upd A1 d (.lst [V.int 0])) t (.ins C dx (putF "_depths" (.ref d) (putF "_owns" (.ref o) [])))) c = none → A1 c = none := fun c z => upd_none (upd_none z)
    have a2t : (upd (upd A1 d (.lst [V.int 0])) t (.ins C dx (putF "_depths" (.ref d) (putF "_owns" (.ref o) [])))) t = some (.ins C dx (putF "_depths" (.ref d) (putF "_owns" (.ref o) []))) := upd_same
    have a2d : (upd (upd A1 d (.lst [V.int 0])) t (.ins C dx (putF "_depths" (.ref d) (putF "_owns" (.ref o) [])))) d = some (.lst [V.int 0]) := by
      rw [upd_ne htd.symm, upd_same]
    have a2o := k2 _ _ hto.symm a1o
    generalize hA2 : (upd (upd A1 d (.lst [V.int 0])) t (.ins C dx (putF "_depths" (.ref d) (putF "_owns" (.ref o) [])))) = A2 at *
    refine ⟨(by show 0 ≤ sizeLine; decide), fun a ha => ⟨(by show 1 ≤ sizeLine; decide), fun n hn => ?_⟩⟩
    have hn2 : A2 n = none := upd_none hn
    have hta : t ≠ a := fun e => by rw [← e, a2t] at ha; cases ha
    have htn : t ≠ n := fun e => by rw [← e, a2t] at hn2; cases hn2
    have hda : d ≠ a := fun e => by rw [← e, a2d] at ha; cases ha
    have hdn : d ≠ n := fun e => by rw [← e, a2d] at hn2; cases hn2
    have hoa : o ≠ a := fun e => by rw [← e, a2o] at ha; cases ha
    have hon : o ≠ n := fun e => by rw [← e, a2o] at hn2; cases hn2
    have han : a ≠ n := fun e => by
      rw [← e, upd_same] at hn
      cases hn
    have p2 : (putF "_depths" (.ref d) (putF "_owns" (.ref o) ([] : List (Str × V)))).length ≤ 2 := Nat.le_trans (length_putF _ _ _) (Nat.succ_le_succ p1)
    refine ⟨_, rfl, t, C, dx, _, rfl, kep (kep a2t ha) hn, TC.cl, TC.n_on, Nat.lt_of_le_of_lt p2 (by decide), ?_⟩
    have p3 : (putF "_on" (.ref n) (putF "_depths" (.ref d) (putF "_owns" (.ref o) ([] : List (Str × V))))).length ≤ 3 := Nat.le_trans (length_putF _ _ _) (Nat.succ_le_succ p2)
    have k3 : ∀ c u, c ≠ t → A2 c = some u → (upd (upd (upd A2 a (.lst [])) n (.lst [V.ref a])) t (.ins C dx (putF "_on" (.ref n) (putF "_depths" (.ref d) (putF "_owns" (.ref o) []))))) c = some u := fun c u h z => by
      rw [upd_ne h]
      exact kep (kep z ha) hn
    have a3t : (upd (upd (upd A2 a (.lst [])) n (.lst [V.ref a])) t (.ins C dx (putF "_on" (.ref n) (putF "_depths" (.ref d) (putF "_owns" (.ref o) []))))) t = some (.ins C dx (putF "_on" (.ref n) (putF "_depths" (.ref d) (putF "_owns" (.ref o) [])))) := upd_same
    have a3n : (upd (upd (upd A2 a (.lst [])) n (.lst [V.ref a])) t (.ins C dx (putF "_on" (.ref n) (putF "_depths" (.ref d) (putF "_owns" (.ref o) []))))) n = some (.lst [V.ref a]) := by
      rw [upd_ne htn.symm, upd_same]
    have a3a : (upd (upd (upd A2 a (.lst [])) n (.lst [V.ref a])) t (.ins C dx (putF "_on" (.ref n) (putF "_depths" (.ref d) (putF "_owns" (.ref o) []))))) a = some (.lst []) := by
      rw [upd_ne hta.symm, upd_ne han, upd_same]
    refine q _ (fun c => c = o ∨ c = d ∨ c = n ∨ c = a) ⟨⟨dx, o, d, n, _, [a], a3t, ?_, ?_, ?_, fun m hm => ?_, k3 _ _ hto.symm a2o, k3 _ _ htd.symm a2d, a3n, Nat.lt_of_le_of_lt p3 (by decide), rfl, hod, hon, hdn, fun i c hc => ?_, fun i j c h1 h2 => ?_, .inl rfl, .inr (.inl rfl), .inr (.inr (.inl rfl))⟩, (fun _ _ z => nomatch z), Nat.zero_le _⟩ ⟨_, a3t, p3, ?_⟩ (fun c u hc z => k3 _ _ hc (k2 _ _ hc (k1 _ _ hc z))) fun c hc => ?_
    · rw [lookup_putF, if_neg (by decide), lookup_putF, if_neg (by decide), lookup_putF, if_pos rfl]
    · rw [lookup_putF, if_neg (by decide), lookup_putF, if_pos rfl]
    · rw [lookup_putF, if_pos rfl]
    · have hm2 : m ≠ "_on" ∧ m ≠ "_depths" ∧ m ≠ "_owns" := ⟨fun e => hm (by rw [e]; decide), fun e => hm (by rw [e]; decide), fun e => hm (by rw [e]; decide)⟩
      rw [lookup_putF, if_neg hm2.1, lookup_putF, if_neg hm2.2.1, lookup_putF, if_neg hm2.2.2]
      rfl
    · cases i with
      | zero =>
        cases (show some a = some c from hc)
        exact ⟨a3a, hoa.symm, hda.symm, han, .inr (.inr (.inr rfl))⟩
      | succ i => cases hc
    · cases i with
      | zero =>
        cases j with
        | zero => rfl
        | succ j => cases h2
      | succ i => cases h1
    · rw [lookup_putF, if_neg (by decide), lookup_putF, if_neg (by decide), lookup_putF, if_neg (by decide)]
      rfl
    · rcases hc with rfl | rfl | rfl | rfl
      · exact ho
      · exact n1 _ hd
      · exact n1 _ (n2 _ hn2)
      · exact n1 _ (n2 _ ha)
end
end K41
set_option maxHeartbeats 1000000
namespace K41
open PySem PySem.Spec PyProof.Rows L2 Gd Gs
open C8 (clsBody Met pe_mt pe_mt0)
/-- the lists of leaps: of make i those that it keeps, each below i -/
structure Lv (N : Addr → Prop) (H : Hp) (q : Addr) (n : Nat) : Prop where
  ex : ∃ ls : List Addr, H q = some (.lst (ls.map V.ref)) ∧ ls.length = n ∧ N q ∧
    ∀ (i : Nat) (a : Addr), ls[i]? = some a → N a ∧ a ≠ q ∧ ∃ ks : List Nat, H a = some (.lst (ks.map num)) ∧ (∀ x ∈ ks, x < i)
/-- a tree that leaps -/
structure Lw (C : Addr) (N : Addr → Prop) (H : Hp) (t : Addr) (ow : List Nat) : Prop where
  ex : ∃ (N1 N2 : Addr → Prop) (dx q : Addr) (fs : List (Str × V)), Tw N1 H t C ow ∧ H t = some (.ins C dx fs) ∧ fs.lookup ("_leaps" : Str) = some (.ref q) ∧ Lv N2 H q (ow.length + 1) ∧
    (∀ c, N1 c → N2 c → False) ∧ (∀ c, N1 c → N c) ∧ (∀ c, N2 c → N c)
theorem Lw.tr {C t : Addr} {N : Addr → Prop} {H : Hp} {ow : List Nat} (l : Lw C N H t ow) : Tr H t C ow (depths ow) := by
  obtain ⟨N1, N2, dx, q, fs, tw, _⟩ := l.ex
  exact tw.tr
section
variable {P : Program} {w : World} {K : PySem.W.Frag} {mg : Str → Option Value} {base : Heap} {C : Addr}
def spThrough (C : Addr) : Sp := fun vs H Q _ => ∃ (t dx q : Addr) (fs : List (Str × V)) (n own : Nat) (N : Addr → Prop), vs = [.ref t, num own] ∧ H t = some (.ins C dx fs) ∧ fs.lookup ("_leaps" : Str) = some (.ref q) ∧ Lv N H q n ∧
  own < n ∧ n < 100 ∧ ∀ (p : Addr) (H' : Hp) (ks : List Nat), H p = none → Same H H' → H' p = some (.lst (ks.map num)) → (∀ x ∈ ks, x ≤ own) → Q (.ref p) H'
theorem ok_through (T : Txt K mg) (TC : TreeC K C) (M : MAt K C "_leaps_through" "LeapTree._leaps_through" s_LeapTree__leaps_through ["self", "own"]) : Met P w K mg base 1 C "_leaps_through" (spThrough C) [] := by
  refine M.met TC.cl sc_LeapTree__leaps_through (fun vs H Q E h => ?_) (fun f cdv A outer s H vs Q E hr h => ?_)
  · obtain ⟨t, dx, q, fs, n, own, N, rfl, _⟩ := h
    rfl
  · obtain ⟨t, dx, q, fs, n, own, N, rfl, e1, l1, lv, ho, hn, qq⟩ := h
    obtain ⟨ls, e2, hl, Nq, hls⟩ := lv.ex
    refine ⟨_, (pss_cons (ps_set (i := 2) sc_LeapTree__leaps_through.nd rfl (Or.inl rfl) (pe_lst (pa_cons (pv 1) pa_nil)))
      (pss_cons (ps_while PassesOwn.never (pt_cmpR op_ge (pe_callB call_len (by rfl) T.b_len boot_len_ (pa_cons (pe_ix ix_list (pe_fld (pv 0) rfl) (pe_ix ix_list (pv 2) (pe_un un_neg pe_int) (fun _ _ => rfl)) (fun _ _ => rfl)) pa_nil)) (pe_callB call_len (by rfl) T.b_len boot_len_ (pa_cons (pv 2) pa_nil)) (nomark _))
          (pss_one (ps_expr (pe_bm PySem.F.plainAttrs_list PySem.F.slot_list_append PySem.F.type_list_append mt_append (pv 2) (pa_cons (pe_ix ix_list (pe_ix ix_list (pe_fld (pv 0) rfl) (pe_ix ix_list (pv 2) (pe_un un_neg pe_int) (fun _ _ => rfl)) (fun _ _ => rfl)) (pe_op op_sub (pe_callB call_len (by rfl) T.b_len boot_len_ (pa_cons (pv 2) pa_nil)) pe_int) (fun _ _ => rfl)) pa_nil)))))
      (pss_one (ps_ret (pv 2))))), ?_⟩
    refine ⟨_, rfl, (by show 1 ≤ sizeLine; decide), fun l hl0 => ?_⟩
    refine ⟨fun m σ H' => Same H H' ∧ ∃ us : List Nat, σ = [some (.ref t), some (num own), some (.ref l)] ∧ H' l = some (.lst ((us ++ [m]).map num)) ∧ (∀ x ∈ us ++ [m], x ≤ own) ∧ us.length + m ≤ own, ⟨own, same_new hl0, [], rfl, upd_same, (fun x hx => by rw [List.mem_singleton.mp hx]; exact Nat.le_refl _), by simp⟩, ?_⟩
    rintro m σ H' ⟨sm, us, rfl, hL, hall, hle⟩
    have hlast : atI ((us ++ [m]).map num) (-1) = some (num m) := by
      rw [List.map_append]
      exact atI_last _ _
    have hm : m ≤ own := hall m (List.mem_append_right _ List.mem_cons_self)
    obtain ⟨a, ha⟩ : ∃ a, ls[m]? = some a := ⟨_, List.getElem?_eq_getElem (by omega)⟩
    obtain ⟨Na, aq, ks, hks, hlt⟩ := hls m a ha
    have hata : atI (ls.map V.ref) ((m : Nat) : Int) = some (V.ref a) := by
      refine atI_nat ?_
      rw [List.getElem?_map, ha]
      rfl
    have hA := sm _ _ hks
    refine ⟨_, rfl, t, C, dx, fs, .ref q, rfl, sm _ _ e1, TC.cl, TC.n_leaps, l1, _, rfl, _, rfl, l, _, _, _, rfl, rfl, SqL.of hL, hlast, ?_⟩
    refine ⟨q, _, _, _, rfl, rfl, SqL.of (sm _ _ e2), hata, ?_⟩
    refine ⟨.ref a, (ks.map num).length, rfl, .inl ⟨_, SqL.of hA, rfl⟩, ?_⟩
    refine ⟨_, rfl, .ref l, ((us ++ [m]).map num).length, rfl, .inl ⟨_, SqL.of hL, rfl⟩, _, _, rfl, rfl, _, rfl, ?_⟩
    rw [List.length_map, List.length_map, List.length_append]
    refine ite2 (fun hge => ?_) (fun _ => ?_)
    · have h2 : us.length < ks.length := by
        have := of_decide_eq_true hge
        show us.length + 1 ≤ _
        have e : ([m] : List Nat).length = 1 := rfl
        rw [e] at this
        omega
      have hk : ks[us.length]? = some ks[us.length] := List.getElem?_eq_getElem h2
      generalize ks[us.length] = m2 at hk
      have hm2 : m2 < m := hlt m2 (List.mem_of_getElem? hk)
      refine ⟨fun σ' H'' => ∃ m', m' < m ∧ Same H H'' ∧ ∃ us : List Nat, σ' = [some (.ref t), some (num own), some (.ref l)] ∧ H'' l = some (.lst ((us ++ [m']).map num)) ∧ (∀ x ∈ us ++ [m'], x ≤ own) ∧ us.length + m' ≤ own, fun σ' H'' z => z, ?_⟩
      refine ⟨_, rfl, .inl ⟨rfl, _, SqL.of hL⟩, ?_⟩
      refine ⟨_, rfl, t, C, dx, fs, .ref q, rfl, sm _ _ e1, TC.cl, TC.n_leaps, l1, _, rfl, _, rfl, l, _, _, _, rfl, rfl, SqL.of hL, hlast, ?_⟩
      refine ⟨q, _, _, _, rfl, rfl, SqL.of (sm _ _ e2), hata, ?_⟩
      refine ⟨_, rfl, .ref l, ((us ++ [m]).map num).length, rfl, .inl ⟨_, SqL.of hL, rfl⟩, _, _, rfl, rfl, ?_⟩
      have hat2 : atI (ks.map num) (((((us ++ [m]).map num).length : Nat) : Int) - 1) = some (num m2) := by
        have e : (((((us ++ [m]).map num).length : Nat) : Int) - 1) = ((us.length : Nat) : Int) := by
          rw [List.length_map, List.length_append]
          show ((us.length + 1 : Nat) : Int) - 1 = _
          omega
        rw [e]
        refine atI_nat ?_
        rw [List.getElem?_map, hk]
        rfl
      refine ⟨a, _, _, _, rfl, rfl, SqL.of hA, hat2, ?_⟩
      refine ⟨l, _, _, rfl, rfl, hL, ?_, m2, hm2, fun c u z => ?_, us ++ [m], rfl, ?_, ?_, ?_⟩
      · rw [List.length_map, List.length_append]
        exact small1000 (by show us.length + 1 ≤ 1000; omega)
      · rw [upd_ne (ne_of_none z hl0)]
        exact sm c u z
      · rw [upd_same, List.map_append (f := num) (l₁ := us ++ [m])]
        rfl
      · intro x hx
        rcases List.mem_append.mp hx with hx | hx
        · exact hall x hx
        · rw [List.mem_singleton.mp hx]
          omega
      · rw [List.length_append]
        show us.length + 1 + _ ≤ own
        omega
    · exact ⟨_, rfl, qq l _ (us ++ [m]) hl0 sm hL hall⟩
end
end K41
set_option maxHeartbeats 1000000
namespace K41
open PySem PySem.Spec PyProof.Rows L2 Gd Gs
open NdefX (NScope nscope_by ncx startF NF)
open C8 (clsBody Met pe_mt pe_mt0)
theorem Tw.cut {N : Addr → Prop} {H : Hp} {t C : Addr} {ow : List Nat} (w : Tw N H t C ow) : Tw (fun c => N c ∧ c ≠ t ∧ H c ≠ none) H t C ow := by
  obtain ⟨dx, o, d, n, fs, ns, e1, l1, l2, l3, nl, e2, e3, e4, lf, hns, od, on, dn, hin, hnd, No, Nd, Nn⟩ := w.ex
  refine ⟨⟨dx, o, d, n, fs, ns, e1, l1, l2, l3, nl, e2, e3, e4, lf, hns, od, on, dn, fun i a ha => ?_, hnd, ⟨No, fun e => ?_, fun e => ?_⟩, ⟨Nd, fun e => ?_, fun e => ?_⟩, ⟨Nn, fun e => ?_, fun e => ?_⟩⟩, w.low, w.few⟩
  · obtain ⟨h1, a1, a2, a3, a4⟩ := hin i a ha
    refine ⟨h1, a1, a2, a3, a4, fun e => ?_, fun e => ?_⟩
    · rw [e, e1] at h1
      cases h1
    · rw [e] at h1
      cases h1
  · rw [e, e1] at e2
    cases e2
  · rw [e] at e2
    cases e2
  · rw [e, e1] at e3
    cases e3
  · rw [e] at e3
    cases e3
  · rw [e, e1] at e4
    cases e4
  · rw [e] at e4
    cases e4
theorem Tw.kp {N : Addr → Prop} {H H' : Hp} {t C : Addr} {ow : List Nat} (w : Tw N H t C ow) (k : ∀ c u, (N c ∨ c = t) → H c = some u → H' c = some u) : Tw N H' t C ow := by
  obtain ⟨dx, o, d, n, fs, ns, e1, l1, l2, l3, nl, e2, e3, e4, lf, hns, od, on, dn, hin, hnd, No, Nd, Nn⟩ := w.ex
  refine ⟨⟨dx, o, d, n, fs, ns, k _ _ (.inr rfl) e1, l1, l2, l3, nl, k _ _ (.inl No) e2, k _ _ (.inl Nd) e3, k _ _ (.inl Nn) e4, lf, hns, od, on, dn, fun i a ha => ?_, hnd, No, Nd, Nn⟩, w.low, w.few⟩
  obtain ⟨h1, a1, a2, a3, a4⟩ := hin i a ha
  exact ⟨k _ _ (.inl a4) h1, a1, a2, a3, a4⟩
theorem Tw.put {N : Addr → Prop} {H H' : Hp} {t C dx : Addr} {ow : List Nat} {fs fs' : List (Str × V)} (w : Tw N H t C ow) (k : ∀ c u, c ≠ t → H c = some u → H' c = some u)
    (e : H t = some (.ins C dx fs)) (e' : H' t = some (.ins C dx fs')) (hl : fs'.length < 1000) (hf : ∀ m : Str, m ≠ "_leaps" → fs'.lookup m = fs.lookup m) : Tw N H' t C ow := by
  obtain ⟨dx2, o, d, n, fs2, ns, e1, l1, l2, l3, nl, e2, e3, e4, lf, hns, od, on, dn, hin, hnd, No, Nd, Nn⟩ := w.ex
  rw [e] at e1
  cases e1
  have no : o ≠ t := fun z => by rw [z, e] at e2; cases e2
  have nd : d ≠ t := fun z => by rw [z, e] at e3; cases e3
  have nn : n ≠ t := fun z => by rw [z, e] at e4; cases e4
  refine ⟨⟨dx, o, d, n, fs', ns, e', (hf _ (by decide)).trans l1, (hf _ (by decide)).trans l2, (hf _ (by decide)).trans l3, fun m hm => (hf m fun z => hm (by rw [z]; decide)).trans (nl m hm), k _ _ no e2, k _ _ nd e3, k _ _ nn e4, hl, hns, od, on, dn, fun i a ha => ?_, hnd, No, Nd, Nn⟩, w.low, w.few⟩
  obtain ⟨h1, a1, a2, a3, a4⟩ := hin i a ha
  exact ⟨k _ _ (fun z => by rw [z, e] at h1; cases h1) h1, a1, a2, a3, a4⟩
theorem Lv.mono {N N' : Addr → Prop} {H H' : Hp} {q : Addr} {n : Nat} (l : Lv N H q n) (hn : ∀ c, N c → N' c) (k : ∀ c u, N c → H c = some u → H' c = some u) : Lv N' H' q n := by
  obtain ⟨ls, h1, h2, h3, h4⟩ := l.ex
  refine ⟨ls, k _ _ h3 h1, h2, hn _ h3, fun i a ha => ?_⟩
  obtain ⟨a1, a2, ks, a3, a4⟩ := h4 i a ha
  exact ⟨hn _ a1, a2, ks, k _ _ a1 a3, a4⟩
/-- a method of C that begins with super().m, g above it -/
structure SAt (P : Program) (K : PySem.W.Frag) (C : Addr) (m qual : Str) (st : Stmt) (ps : List Str) (g : Addr) : Prop where
  ex : ∃ (f cc c : Addr) (oc : Value) (od : Option Addr) (doc pm : Value) (an : Option Addr) (ct : Value) (osl : Array (Option Value)),
    SupTxt P K C C f g cc ⟨m, qual, defArgs st, defBody st, defScope st, [(("__class__" : Str), cc)], c⟩ m ∧
    K.lookup f = some ⟨oc, od, .func (PySem.W.ksFn m qual (defArgs st) (defBody st) (defScope st) .none .none doc pm an (.ref c) ct cc), osl⟩ ∧ Meth K C m f ∧
    Binds K (PySem.W.ksFn m qual (defArgs st) (defBody st) (defScope st) .none .none doc pm an (.ref c) ct cc) ps []
theorem ns_grow : NScope ["self", "make", "__class__", "number"] ["self", "make"] ["__class__"] (defScope s_LeapTree_grow) := nscope_by (by decide +kernel)
theorem ns_init : NScope ["self", "__class__"] ["self"] ["__class__"] (defScope s_LeapTree___init__) := nscope_by (by decide +kernel)
section
variable {P : Program} {w : World} {K : PySem.W.Frag} {mg : Str → Option Value} {base : Heap} {C : Addr}
def spInitL (C : Addr) : Sp := fun vs H Q _ => ∃ (t dx : Addr), vs = [.ref t] ∧ H t = some (.ins C dx []) ∧
  ∀ (H' : Hp) (N' : Addr → Prop), Lw C N' H' t [] → (∀ c u, c ≠ t → H c = some u → H' c = some u) → (∀ c, N' c → H c = none) → Q .non H'
theorem okL_init {g : Addr} {fd : FuncData} (T : Txt K mg) (TC : TreeC K C) (F : Fun K "__init__" "MakeTree.__init__" s_MakeTree___init__ g fd) (hb : Binds K fd ["self"] []) (S : SAt P K C "__init__" "LeapTree.__init__" s_LeapTree___init__ ["self"] g) :
    ∃ (f : Addr) (fd : FuncData), Meth K C "__init__" f ∧ Binds K fd ["self"] [] ∧ FnOk P w K mg base CX0 2 f fd ["self"] (spInitL C) := by
  obtain ⟨f, cc, c, oc, od, doc, pm, an, ct, osl, sup, lk, me, bi⟩ := S.ex
  refine ⟨f, _, me, bi, ?_⟩
  refine okS_do sup lk ns_init rfl (fun vs H Q E h => ?_) rfl (fn_init T TC F) hb (by rfl) (fun L => by rfl) (fun L => by rfl) ?_
  · obtain ⟨t, dx, rfl, _⟩ := h
    rfl
  · rintro A outer s H vs Q E hr ⟨t, dx, rfl, e1, q⟩
    refine ⟨t, dx, [], E0, _, rfl, e1, pass0, (pss_one (ps_fld (pv 0) (pe_lst (pa_cons (pe_lst pa_nil) pa_nil)) rfl)), ?_⟩
    refine ⟨t, dx, rfl, e1, fun H1 N1 tw ⟨fs, f1, f2, f3⟩ k1 n1 => ?_⟩
    refine ⟨(by show 0 ≤ sizeLine; decide), fun a ha => ⟨(by show 1 ≤ sizeLine; decide), fun p hp => ?_⟩⟩
    have hta : t ≠ a := fun e => by rw [← e, f1] at ha; cases ha
    have hp1 : H1 p = none := upd_none hp
    have htp : t ≠ p := fun e => by rw [← e, f1] at hp1; cases hp1
    have hap : a ≠ p := fun e => by
      rw [← e, upd_same] at hp
      cases hp
    obtain ⟨dx2, _, _, _, _, _, z1, _⟩ := tw.ex
    refine ⟨_, rfl, t, C, _, fs, rfl, kep (kep f1 ha) hp, TC.cl, TC.n_leaps, Nat.lt_of_le_of_lt f2 (by decide), ?_⟩
    have k3 : ∀ c u, c ≠ t → H1 c = some u → (upd (upd (upd H1 a (.lst [])) p (.lst [V.ref a])) t (.ins C dx (putF "_leaps" (.ref p) fs))) c = some u := fun c u h z => by
      rw [upd_ne h]
      exact kep (kep z ha) hp
    refine q _ (fun c => N1 c ∧ c ≠ t ∧ H1 c ≠ none ∨ (c = p ∨ c = a)) ⟨_, (fun c => c = p ∨ c = a), dx, p, _, tw.cut.put k3 f1 upd_same ?_ ?_, upd_same, ?_, ⟨[a], ?_, rfl, .inl rfl, fun i b hb => ?_⟩, fun c h1 h2 => ?_, fun c h => .inl h, fun c h => .inr h⟩ (fun c u hc z => k3 _ _ hc (k1 _ _ hc z)) fun c hc => ?_
    · exact Nat.lt_of_le_of_lt (length_putF _ _ _) (by omega)
    · intro m hm
      rw [lookup_putF, if_neg hm]
    · rw [lookup_putF, if_pos rfl]
    · rw [upd_ne htp.symm, upd_same]
      rfl
    · cases i with
      | zero =>
        cases (show some a = some b from hb)
        refine ⟨.inr rfl, hap, [], ?_, fun x hx => nomatch hx⟩
        rw [upd_ne hta.symm, upd_ne hap, upd_same]
        rfl
      | succ i => cases hb
    · rcases h2 with rfl | rfl
      · exact h1.2.2 hp1
      · exact h1.2.2 ha
    · have bk : ∀ c, c ≠ t → H1 c = none → H c = none := fun c hc z => by
        cases z2 : H c with
        | none => rfl
        | some u =>
          rw [k1 _ _ hc z2] at z
          cases z
      rcases hc with hc | rfl | rfl
      · exact n1 _ hc.1
      · exact bk _ htp.symm hp1
      · exact bk _ hta.symm ha
def spGrowL (C : Addr) : Sp := fun vs H Q _ => ∃ (t : Addr) (ow : List Nat) (i : Nat) (N : Addr → Prop), vs = [.ref t, num i] ∧ Lw C N H t ow ∧ i ≤ ow.length ∧ ow.length < 63 ∧
  ∀ (H' : Hp) (N' : Addr → Prop), Lw C N' H' t (ow ++ [i]) → (∀ c u, ¬ N c → H c = some u → H' c = some u) → (∀ c, N' c → N c ∨ H c = none) → Q (num (ow.length + 1)) H'
theorem okL_grow {g : Addr} {fd : FuncData} (T : Txt K mg) (TC : TreeC K C) (m_many : Met P w K mg base 1 C "many" (spMany C) []) (m__need_make : Met P w K mg base 2 C "_need_make" (spNeed C) []) (m__leaps_through : Met P w K mg base 1 C "_leaps_through" (spThrough C) [])
    (F : Fun K "grow" "MakeTree.grow" s_MakeTree_grow g fd) (hb : Binds K fd ["self", "make"] []) (S : SAt P K C "grow" "LeapTree.grow" s_LeapTree_grow ["self", "make"] g) :
    Met P w K mg base 4 C "grow" (spGrowL C) [] := by
  obtain ⟨f, cc, c, oc, od, doc, pm, an, ct, osl, sup, lk, me, bi⟩ := S.ex
  refine ⟨f, _, _, [], TC.cl, me, ?_, bi, .nil⟩
  refine okS_set (i := 3) sup lk ns_grow rfl (fun vs H Q E h => ?_) rfl rfl rfl (fn_grow T TC m_many m__need_make F) hb (by rfl) (fun L => by rfl) (fun L => by rfl) (fun L => by rfl) (fun L => by rfl) ?_
  · obtain ⟨t, ow, i, N, rfl, _⟩ := h
    rfl
  · rintro A outer s H vs Q E hr ⟨t, ow, i, N, rfl, lw, hi, hf, q⟩
    obtain ⟨N1, N2, dx, q0, fs, tw, e1, l1, lv, dis, i1, i2⟩ := lw.ex
    refine ⟨t, dx, fs, E0, _, _, rfl, e1, pass0, (pa_cons (pv 1) pa_nil), (pss_cons (ps_expr (pe_bm PySem.F.plainAttrs_list PySem.F.slot_list_append PySem.F.type_list_append mt_append (pe_fld (pv 0) rfl) (pa_cons (pe_mt m__leaps_through hr (by decide) (pv 0) (pa_cons (pv 1) pa_nil)) pa_nil))) (pss_one (ps_ret (pv 3)))), ?_⟩
    refine ⟨_, rfl, t, ow, i, _, rfl, tw.cut, hi, hf, fun H1 M1 tw1 k1 n1 => ?_⟩
    obtain ⟨ls, e2, hls, Nq, hin⟩ := lv.ex
    have t1 : H1 t = some (.ins C dx fs) := k1 _ _ (fun z => z.2.1 rfl) e1
    have kv : ∀ c u, N2 c → H c = some u → H1 c = some u := fun c u hc z => k1 _ _ (fun y => dis c y.1 hc) z
    have lv1 : Lv N2 H1 q0 (ow.length + 1) := lv.mono (fun _ z => z) kv
    have q1 : H1 q0 = some (.lst (ls.map V.ref)) := kv _ _ Nq e2
    have hqt : q0 ≠ t := fun z => by rw [z, e1] at e2; cases e2
    refine ⟨_, rfl, t, C, dx, fs, .ref q0, rfl, t1, TC.cl, TC.n_leaps, l1, .inl ⟨rfl, _, SqL.of q1⟩, ?_⟩
    obtain ⟨dx2, _, _, _, fs2, _, y1, _, _, _, y5, _⟩ := tw1.ex
    rw [t1] at y1
    cases y1
    refine ⟨_, rfl, t, dx, fs, rfl, t1, y5 _ (by decide), _, rfl, t, dx, q0, fs, _, i, N2, rfl, t1, l1, lv1, by omega, by omega, fun p H2 ks hp sm hk hle => ?_⟩
    have q2 := sm _ _ q1
    have hpq : p ≠ q0 := fun z => by rw [z, q1] at hp; cases hp
    have hpt : p ≠ t := fun z => by rw [z, t1] at hp; cases hp
    have hq3 : (upd H2 q0 (.lst (ls.map V.ref ++ [V.ref p]))) q0 = some (.lst ((ls ++ [p]).map V.ref)) := by
      rw [upd_same, List.map_append]
      rfl
    refine ⟨q0, _, _, rfl, rfl, q2, small1000 (by rw [List.length_map]; omega), ?_⟩
    have k3 : ∀ c u, c ≠ q0 → H1 c = some u → (upd H2 q0 (.lst (ls.map V.ref ++ [V.ref p]))) c = some u := fun c u hc z => by
      rw [upd_ne hc]
      exact sm _ _ z
    have kp3 : (upd H2 q0 (.lst (ls.map V.ref ++ [V.ref p]))) p = some (.lst (ks.map num)) := by
      rw [upd_ne hpq]
      exact hk
    generalize upd H2 q0 (.lst (ls.map V.ref ++ [V.ref p])) = H3 at *
    have nq : ∀ c, M1 c → c ≠ q0 := fun c hc z => by
      subst z
      rcases n1 _ hc with h | h
      · exact dis _ h.1 Nq
      · rw [e2] at h
        cases h
    refine ⟨_, rfl, q _ (fun c => (M1 c ∧ c ≠ t ∧ H1 c ≠ none) ∨ ((N2 c ∧ H c ≠ none) ∨ c = p)) ⟨_, (fun c => (N2 c ∧ H c ≠ none) ∨ c = p), dx, q0, fs, tw1.cut.kp fun c u hc z => ?_, k3 _ _ hqt.symm t1, l1, ⟨ls ++ [p], hq3, ?_, .inl ⟨Nq, fun z => by rw [e2] at z; cases z⟩, fun j b hb => ?_⟩, fun c h1 h2 => ?_, fun c h => .inl h, fun c h => .inr h⟩ (fun c u hc z => ?_) fun c hc => ?_⟩
    · rcases hc with hc | rfl
      · exact k3 _ _ (nq _ hc.1) z
      · exact k3 _ _ hqt.symm z
    · rw [List.length_append, List.length_append, hls]
      rfl
    · by_cases hj : j < ls.length
      · rw [List.getElem?_append_left hj] at hb
        obtain ⟨a1, a2, ks2, a3, a4⟩ := hin j b hb
        exact ⟨.inl ⟨a1, fun z => by rw [a3] at z; cases z⟩, a2, ks2, k3 _ _ a2 (kv _ _ a1 a3), a4⟩
      · rw [List.getElem?_append_right (by omega)] at hb
        by_cases h0 : j - ls.length = 0
        · rw [h0] at hb
          cases (show some p = some b from hb)
          exact ⟨.inr rfl, hpq, ks, kp3, fun x hx => by have := hle x hx; omega⟩
        · rw [List.getElem?_eq_none (by show 1 ≤ _; omega)] at hb
          cases hb
    · rcases h2 with h2 | rfl
      · rcases n1 _ h1.1 with h | h
        · exact dis _ h.1 h2.1
        · exact h2.2 h
      · exact h1.2.2 hp
    · have h1 : ¬ N1 c := fun y => hc (i1 _ y)
      have h2 : ¬ N2 c := fun y => hc (i2 _ y)
      exact k3 _ _ (fun y => h2 (y ▸ Nq)) (k1 _ _ (fun y => h1 y.1) z)
    · rcases hc with hc | hc | rfl
      · rcases n1 _ hc.1 with h | h
        · exact .inl (i1 _ h.1)
        · exact .inr h
      · exact .inl (i2 _ hc.1)
      · by_cases y : N1 c
        · exact .inl (i1 _ y)
        · refine .inr ?_
          cases z2 : H c with
          | none => rfl
          | some u =>
            rw [k1 _ _ (fun x => y x.1) z2] at hp
            cases hp
end
end K41
set_option maxHeartbeats 1000000
namespace K41
open PySem PySem.Spec PyProof.Rows L2 Gd
open C8 (clsBody Met pe_mt pe_mt0)
abbrev kLf : Key := Sum.inr "left"
abbrev kSd : Key := Sum.inr "seed"
abbrev kTn : Key := Sum.inr "turn"
theorem putK_old {κ : Type} [DecidableEq κ] {kvs : List (κ × V)} {k : κ} {v x : V} (h : valV kvs k = some x) : (putK kvs k v).length = kvs.length := by
  unfold putK
  rw [if_pos (by rw [valV_any, h]; rfl), List.length_map]
/-- the box of a cell, at most so many numbers drawn -/
def BoxD (H : Hp) (b : Addr) (n : Int) : Prop := ∃ (x y z : Int) (kvs : List (Key × V)), H b = some (.dK kvs) ∧ kvs.length = 3 ∧ valV kvs kLf = some (.int x) ∧ valV kvs kSd = some (.int y) ∧ valV kvs kTn = some (.int z) ∧ 0 ≤ x ∧ 0 ≤ y ∧ y < 2147483647 ∧ 0 ≤ z ∧ z ≤ n
theorem BoxD.kp {H H' : Hp} {b : Addr} {n : Int} (h : BoxD H b n) (k : ∀ u, H b = some u → H' b = some u) : BoxD H' b n := by
  obtain ⟨x, y, z, kvs, h1, h2⟩ := h
  exact ⟨x, y, z, kvs, k _ h1, h2⟩
theorem BoxD.some {H : Hp} {b : Addr} {n : Int} (h : BoxD H b n) : ∃ u, H b = some u := by
  obtain ⟨x, y, z, kvs, h1, h2⟩ := h
  exact ⟨_, h1⟩
theorem BoxD.up {H : Hp} {b : Addr} {n m : Int} (h : BoxD H b n) (k : n ≤ m) : BoxD H b m := by
  obtain ⟨x, y, z, kvs, h1, h2, h3, h4, h5, h6, h7, h8, h9, h10⟩ := h
  exact ⟨x, y, z, kvs, h1, h2, h3, h4, h5, h6, h7, h8, h9, by omega⟩
theorem BoxD.ne {H : Hp} {b p : Addr} {n : Int} (h : BoxD H b n) (e : H p = none) : p ≠ b := fun z => by
  obtain ⟨u, hu⟩ := h.some
  rw [z, hu] at e
  cases e
theorem dgs {H : Hp} {a : Addr} {kvs : List (Key × V)} {k : Str} {v : V} (e : H a = some (.dK kvs)) (h : valV kvs (Sum.inr k) = some v) : DGet H a (.str k) (some v) := h ▸ DGet.k (k := Sum.inr k) e
section
variable {P : Program} {w : World} {K : PySem.W.Frag} {mg : Str → Option Value} {base : Heap} {C : Addr}
theorem ok_cell (T : Txt K mg) (D : DefAt K mg "_law_cell_at" s__law_cell_at ["_law_script", "_law_k"]) : CalG P w K mg base 1 "_law_cell_at" (Gd.spCell K) := by
  refine D.cal sc__law_cell_at (fun vs H Q E h => ?_) (fun f cdv A outer s H vs Q E hG hr h => ?_)
  · obtain ⟨a, ns, k, rfl, _⟩ := h
    rfl
  · obtain ⟨a, ns, k, rfl, hS, hl, hk, q⟩ := h
    refine ⟨_, (pss_cons (ps_if (pt_cmpR op_lt (pv 1) (pe_callB call_len (by rfl) T.b_len boot_len_ (pa_cons (pv 0) pa_nil)) (nomark _))
          (pss_one (ps_ret (pe_ix ix_list (pv 0) (pv 1) (fun _ _ => rfl)))) pss_nil)
      (pss_one (ps_ret (pe_op op_add (pe_op op_mul pe_int (pv 1)) pe_int)))), ?_⟩
    refine ⟨_, rfl, _, rfl, _, _, rfl, .inl ⟨_, hS, rfl⟩, _, _, rfl, rfl, _, rfl, ?_⟩
    refine ite2 (fun e => ?_) (fun e => ?_)
    · have e2 := of_decide_eq_true e
      rw [List.length_map] at e2
      obtain ⟨n, hn⟩ := atI_ints hk e2
      exact ⟨_, rfl, _, rfl, _, _, _, _, rfl, rfl, hS, hn, q n⟩
    · exact ⟨_, rfl, _, _, rfl, rfl, .inl ⟨by decide, by decide⟩, _, _, rfl, rfl, q _⟩
def spBoxD : Sp := fun vs H Q _ => ∃ n : Int, vs = [.int n] ∧ ∀ (b : Addr) (H' : Hp), H b = none → BoxD H' b 0 → (∀ c, c ≠ b → H' c = H c) → Q (.ref b) H'
theorem ok_box (T : Txt K mg) (D : DefAt K mg "_law_box" s__law_box ["_law_cell"]) : CalG P w K mg base 1 "_law_box" spBoxD := by
  refine D.cal sc__law_box (fun vs H Q E h => ?_) (fun f cdv A outer s H vs Q E hG hr h => ?_)
  · obtain ⟨n, rfl, _⟩ := h
    rfl
  · obtain ⟨n, rfl, q⟩ := h
    refine ⟨_, (pss_one (ps_ret (pe_disp (pps_cons pe_str (pe_callB (call_max2 rfl) (by rfl) T.b_max boot_max_ (pa_cons pe_int (pa_cons (pe_op op_sub (pv 0) (pe_op op_pow pe_int pe_int)) pa_nil))) (pps_cons pe_str (pe_op op_mod (pv 0) pe_int) (pps_cons pe_str pe_int pps_nil))) (by rfl) (by rfl) (fun z => by cases z) (by decide)))), ?_⟩
    intro b hb
    refine ⟨_, rfl, _, _, rfl, rfl, ⟨by decide, by decide, by decide⟩, _, _, rfl, rfl, _, _, rfl, ?_⟩
    refine ⟨_, rfl, _, _, rfl, rfl, (by show (0 : Int) < 2147483647; decide), ?_⟩
    refine ⟨upd_same, [(kLf, _), (kSd, _), (kTn, .int 0)], rfl, (by show 3 ≤ 15; decide), ?_⟩
    refine q b _ hb ⟨_, _, _, _, upd_same, rfl, valV_pos rfl, (valV_neg (show ¬ kLf = kSd by decide)).trans (valV_pos rfl), (valV_neg (show ¬ kLf = kTn by decide)).trans ((valV_neg (show ¬ kSd = kTn by decide)).trans (valV_pos rfl)), ?_, ?_, ?_, by decide, by decide⟩ fun c hc => ?_
    · split <;> omega
    · exact Int.emod_nonneg _ (by decide)
    · exact Int.emod_lt_of_pos _ (by decide)
    · rw [upd_ne hc, upd_ne hc]
def spTakeD : Sp := fun vs H Q _ => ∃ (b : Addr) (m n : Int), vs = [.ref b, .int m] ∧ BoxD H b n ∧ n ≤ 1000000 ∧ 0 < m ∧ m ≤ 1000000000 ∧
  ∀ (d : Int) (H' : Hp), 0 ≤ d → d < m → BoxD H' b (n + 1) → (∀ c, c ≠ b → H' c = H c) → Q (.int d) H'
theorem ok_take (T : Txt K mg) (D : DefAt K mg "_law_take" s__law_take ["_law_box_here", "_law_many"]) : CalG P w K mg base 1 "_law_take" spTakeD := by
  refine D.cal sc__law_take (fun vs H Q E h => ?_) (fun f cdv A outer s H vs Q E hG hr h => ?_)
  · obtain ⟨b, m, n, rfl, _⟩ := h
    rfl
  · obtain ⟨b, m, n, rfl, hB, hn, hm0, hm1, q⟩ := h
    obtain ⟨x, y, z, kvs, hb, hl3, vl, vs, vt, hx, hy0, hy1, hz0, hz1⟩ := hB
    refine ⟨_, (pss_cons (ps_if (pt_cmpR op_gt (pe_dget (hu_of hr) (pv 0) pe_str (fun _ _ => rfl)) pe_int (nomark _))
          (pss_cons (ps_set (i := 2) sc__law_take.nd rfl (Or.inl rfl) (pe_op op_mod (pe_dget (hu_of hr) (pv 0) pe_str (fun _ _ => rfl)) (pv 1)))
          (pss_cons (ps_dput (hu_of hr) (pv 0) pe_str (pe_op op_fdiv (pe_dget (hu_of hr) (pv 0) pe_str (fun _ _ => rfl)) (pv 1)) rfl)
          (pss_one (ps_ret (pv 2))))) pss_nil)
      (pss_cons (ps_dput (hu_of hr) (pv 0) pe_str (pe_op op_add (pe_dget (hu_of hr) (pv 0) pe_str (fun _ _ => rfl)) pe_int) rfl)
      (pss_cons (ps_set (i := 3) sc__law_take.nd rfl (Or.inl rfl) (pe_op op_mod (pe_op op_pow (pe_op op_add (pe_dget (hu_of hr) (pv 0) pe_str (fun _ _ => rfl)) (pe_op op_mul pe_int (pe_dget (hu_of hr) (pv 0) pe_str (fun _ _ => rfl)))) pe_int) pe_int))
      (pss_cons (ps_set (i := 3) sc__law_take.nd rfl (Or.inl rfl) (pe_op op_mod (pe_op op_pow (pe_op op_add (pv 3) (pe_op op_mul pe_int (pe_dget (hu_of hr) (pv 0) pe_str (fun _ _ => rfl)))) pe_int) pe_int))
      (pss_one (ps_ret (pe_op op_mod (pe_op op_fdiv (pv 3) pe_int) (pv 1)))))))), ?_⟩
    refine ⟨_, rfl, b, _, rfl, dgs hb vl, _, _, rfl, rfl, _, rfl, ?_⟩
    refine ite2 (fun e => ?_) (fun e => ?_)
    · have e2 := of_decide_eq_true e
      refine ⟨_, rfl, b, _, rfl, dgs hb vl, _, rfl, _, _, rfl, rfl, hm0, ?_⟩
      refine ⟨_, rfl, b, _, rfl, dgs hb vl, _, rfl, _, _, rfl, rfl, ⟨hm0, by omega⟩, ?_⟩
      refine ⟨_, rfl, b, _, rfl, DPut.k (k := kLf) hb (small1000 (by omega)), ?_⟩
      refine ⟨_, rfl, ?_⟩
      refine q _ _ (Int.emod_nonneg _ (by omega)) (Int.emod_lt_of_pos _ hm0) ⟨x / m, y, z, _, upd_same, ?_, ?_, ?_, ?_, ?_, hy0, hy1, hz0, by omega⟩ fun c hc => upd_ne hc
      · rw [putK_old vl]
        exact hl3
      · rw [valV_put, if_pos rfl]
      · rw [valV_put, if_neg (by decide)]
        exact vs
      · rw [valV_put, if_neg (by decide)]
        exact vt
      · exact Int.ediv_nonneg (by omega) (by omega)
    · refine ⟨_, rfl, b, _, rfl, dgs hb vt, _, _, rfl, rfl, ?_⟩
      refine ⟨_, rfl, b, _, rfl, DPut.k (k := kTn) hb (small1000 (by omega)), ?_⟩
      have hb1 : (upd H b (.dK (putK kvs kTn (.int (z + 1))))) b = some (.dK (putK kvs kTn (.int (z + 1)))) := upd_same
      have vl1 : valV (putK kvs kTn (.int (z + 1))) kLf = some (.int x) := by rw [valV_put, if_neg (by decide)]; exact vl
      have vs1 : valV (putK kvs kTn (.int (z + 1))) kSd = some (.int y) := by rw [valV_put, if_neg (by decide)]; exact vs
      have vt1 : valV (putK kvs kTn (.int (z + 1))) kTn = some (.int (z + 1)) := by rw [valV_put, if_pos rfl]
      have hl1 : (putK kvs kTn (.int (z + 1))).length = 3 := by rw [putK_old vt]; exact hl3
      generalize putK kvs kTn (.int (z + 1)) = kv1 at *
      refine ⟨_, rfl, b, _, rfl, dgs hb1 vs1, _, rfl, b, _, rfl, dgs hb1 vt1, _, _, rfl, rfl, .inl ⟨by omega, by omega⟩, _, _, rfl, rfl, ?_⟩
      refine ⟨_, _, rfl, rfl, ⟨by decide, by decide, by omega⟩, _, _, rfl, rfl, (by show (0 : Int) < 2147483629; decide), ?_⟩
      generalize hA : (y + 7919 * (z + 1)) ^ (3 : Int).toNat % 2147483629 = A
      have a0 : 0 ≤ A := hA ▸ Int.emod_nonneg _ (by decide)
      have a1 : A < 2147483629 := hA ▸ Int.emod_lt_of_pos _ (by decide)
      clear hA
      refine ⟨_, rfl, _, rfl, b, _, rfl, dgs hb1 vt1, _, _, rfl, rfl, .inl ⟨by omega, by omega⟩, _, _, rfl, rfl, ?_⟩
      refine ⟨_, _, rfl, rfl, ⟨by decide, by decide, by omega⟩, _, _, rfl, rfl, (by show (0 : Int) < 2147483587; decide), ?_⟩
      refine ⟨_, rfl, _, _, rfl, rfl, ⟨by decide, by decide⟩, ?_⟩
      refine ⟨_, rfl, _, _, rfl, rfl, hm0, ?_⟩
      exact q _ _ (Int.emod_nonneg _ (by omega)) (Int.emod_lt_of_pos _ hm0) ⟨_, _, _, _, hb1, hl1, vl1, vs1, vt1, hx, hy0, hy1, by omega, by omega⟩ fun c hc => upd_ne hc
end
end K41
set_option maxHeartbeats 1000000
namespace K41
open PySem PySem.Spec PyProof.Rows L2 Gd Gs
open C8 (clsBody Met pe_mt pe_mt0)
section
variable {P : Program} {w : World} {K : PySem.W.Frag} {mg : Str → Option Value} {base : Heap} {C CL : Addr}
theorem Lw.cut {C t : Addr} {N : Addr → Prop} {H : Hp} {ow : List Nat} (l : Lw C N H t ow) : Lw C (fun c => N c ∧ H c ≠ none) H t ow := by
  obtain ⟨N1, N2, dx, q, fs, tw, e1, l1, lv, dis, i1, i2⟩ := l.ex
  obtain ⟨ls, h1, h2, h3, h4⟩ := lv.ex
  refine ⟨_, (fun c => N2 c ∧ H c ≠ none), dx, q, fs, tw.cut, e1, l1, ⟨ls, h1, h2, ⟨h3, fun z => by rw [h1] at z; cases z⟩, fun i a ha => ?_⟩, fun c h1 h2 => dis c h1.1 h2.1, fun c h => ⟨i1 _ h.1, h.2.2⟩, fun c h => ⟨i2 _ h.1, h.2⟩⟩
  obtain ⟨a1, a2, ks, a3, a4⟩ := h4 i a ha
  exact ⟨⟨a1, fun z => by rw [a3] at z; cases z⟩, a2, ks, a3, a4⟩
theorem Lw.kp {C t : Addr} {N : Addr → Prop} {H H' : Hp} {ow : List Nat} (r : Lw C N H t ow) (k : ∀ c u, (N c ∨ c = t) → H c = some u → H' c = some u) : Lw C N H' t ow := by
  obtain ⟨N1, N2, dx, q, fs, tw, e1, l1, lv, dis, i1, i2⟩ := r.ex
  exact ⟨N1, N2, dx, q, fs, tw.kp fun c u y z => k c u (y.imp (i1 c) id) z, k _ _ (.inr rfl) e1, l1, lv.mono (fun _ z => z) fun c u y z => k c u (.inl (i2 c y)) z, dis, i1, i2⟩
theorem Lw.same {C t : Addr} {N : Addr → Prop} {H H' : Hp} {ow : List Nat} (r : Lw C N H t ow) (s : Same H H') : Lw C N H' t ow := r.kp fun c u _ z => s c u z
/-- what stands for the own make -/
def ownV (ow : List Nat) (i : Nat) : V := if i = 0 then .non else num (par ow i)
theorem at_any {ow : List Nat} {i : Nat} (h1 : i ≤ ow.length) : atI (V.non :: ow.map num) ((i : Nat) : Int) = some (ownV ow i) := by
  by_cases h0 : 0 < i
  · rw [at_own h0 h1]
    unfold ownV
    rw [if_neg (by omega)]
  · have e : i = 0 := by omega
    subst e
    exact atI_nat (j := 0) rfl
def spOwn (C : Addr) : Sp := fun vs H Q _ => ∃ (t : Addr) (ow ds : List Nat) (i : Nat), vs = [.ref t, num i] ∧ Tr H t C ow ds ∧ i ≤ ow.length ∧ Q (ownV ow i) H
theorem ok_own (T : Txt K mg) (TC : TreeC K C) (m__need_make : Met P w K mg base 2 C "_need_make" (spNeed C) []) (M : MAt K C "own" "MakeTree.own" s_MakeTree_own ["self", "make"]) :
    Met P w K mg base 3 C "own" (spOwn C) [] := by
  refine M.met TC.cl sc_MakeTree_own (fun vs H Q E h => ?_) (fun f cdv A outer s H vs Q E hr h => ?_)
  · obtain ⟨t, ow, ds, i, rfl, _⟩ := h
    rfl
  · obtain ⟨t, ow, ds, i, rfl, tr, hi, q⟩ := h
    obtain ⟨dx, o, d, n, fs, e1, l1, l2, l3, nl, e2, e3, lf⟩ := tr.ex
    refine ⟨_, (pss_cons (ps_expr (pe_mt m__need_make hr (by decide) (pv 0) (pa_cons (pv 1) pa_nil)))
      (pss_one (ps_ret (pe_ix ix_list (pe_fld (pv 0) rfl) (pv 1) (fun _ _ => rfl))))), ?_⟩
    refine ⟨_, rfl, t, dx, fs, rfl, e1, nl _ (by decide), _, rfl, t, ow, ds, i, rfl, tr, hi, ?_⟩
    exact ⟨_, rfl, t, C, dx, fs, .ref o, rfl, e1, TC.cl, TC.n_owns, l1, _, rfl, o, _, _, _, rfl, rfl, SqL.of e2, at_any hi, q⟩
def spGrowR (R : (Addr → Prop) → Hp → Addr → List Nat → Prop) : Sp := fun vs H Q _ => ∃ (t : Addr) (ow : List Nat) (i : Nat) (N : Addr → Prop), vs = [.ref t, num i] ∧ R N H t ow ∧ i ≤ ow.length ∧ ow.length < 63 ∧
  ∀ (H' : Hp) (N' : Addr → Prop), R N' H' t (ow ++ [i]) → (∀ c u, ¬ N c → H c = some u → H' c = some u) → (∀ c, N' c → N c ∨ H c = none) → Q (num (ow.length + 1)) H'
def spAlike (C : Addr) (R : (Addr → Prop) → Hp → Addr → List Nat → Prop) : Sp := fun vs H Q _ => ∃ (t u : Addr) (ow : List Nat) (N : Addr → Prop) (H0 : Hp), vs = [.ref t, .ref u] ∧ Same H0 H ∧ Tr H0 t C ow (depths ow) ∧ R N H u [] ∧ (∀ c, N c → H0 c = none) ∧ H0 u = none ∧
  ∀ (H' : Hp) (N' : Addr → Prop), R N' H' u ow → (∀ c, N' c → H0 c = none) → Same H0 H' → Q (.ref u) H'
/-- what a reading of trees must give -/
structure Rd (C : Addr) (R : (Addr → Prop) → Hp → Addr → List Nat → Prop) : Prop where
  tr : ∀ N H t ow, R N H t ow → Tr H t C ow (depths ow)
  cut : ∀ N H t ow, R N H t ow → R (fun c => N c ∧ H c ≠ none) H t ow
  same : ∀ N H H' t ow, R N H t ow → Same H H' → R N H' t ow
theorem ok_alike {R : (Addr → Prop) → Hp → Addr → List Nat → Prop} (TC : TreeC K C) (rd : Rd C R) (m_grow : Met P w K mg base 4 C "grow" (spGrowR R) []) (M : MAt K C "_grown_alike" "MakeTree._grown_alike" s_MakeTree__grown_alike ["self", "other"]) :
    Met P w K mg base 5 C "_grown_alike" (spAlike C R) [] := by
  refine M.met TC.cl sc_MakeTree__grown_alike (fun vs H Q E h => ?_) (fun f cdv A outer s H vs Q E hr h => ?_)
  · obtain ⟨t, u, ow, N, H0, rfl, _⟩ := h
    rfl
  · obtain ⟨t, u, ow, N0, H0, rfl, s0, tr0, rk, fr0, nu, q⟩ := h
    obtain ⟨dx0, o0, d0, n0, fs0, e1, l1, l2, l3, nl0, e2, e3, lf⟩ := (tr0.same s0).ex
    refine ⟨_, (pss_cons (ps_for PassesOwn.never rfl (pi_list (pe_slice sl_list (pe_fld (pv 0) rfl) (po_some pe_int) po_none)) (pg_name (i := 2) sc_MakeTree__grown_alike.nd rfl (Or.inl rfl))
          (pss_one (ps_expr (pe_mt m_grow hr (by decide) (pv 1) (pa_cons (pv 2) pa_nil)))))
      (pss_one (ps_ret (pv 1)))), ?_⟩
    refine ⟨_, rfl, t, C, dx0, fs0, .ref o0, rfl, e1, TC.cl, TC.n_owns, l1, _, rfl, o0, _, rfl, SqL.of e2, fun p hp => ?_⟩
    rw [show (some (1 : Int)) = some (((1 : Nat) : Int)) from rfl, cut_from, List.drop_one, List.tail_cons]
    refine ⟨p, rfl, ⟨_, SqL.of upd_same⟩, ?_⟩
    refine for_list (K := K) (a := p) (xs := ow.map num) (fun i σ H' => Same H0 H' ∧ H' p = some (.lst (ow.map num)) ∧ ∃ (N : Addr → Prop) (y : Option V), σ = [some (.ref t), some (.ref u), y] ∧ R N H' u (ow.take i) ∧ ¬ N p ∧ (∀ c, N c → H0 c = none))
      ⟨s0.trans (same_new hp), upd_same, (fun c => N0 c ∧ H c ≠ none), none, rfl, rd.same _ _ _ _ _ (rd.cut _ _ _ _ rk) (same_new hp), fun z => z.2 hp, fun c z => fr0 c z.1⟩ (fun i σ H' _ hP => SqL.of hP.2.1) (fun i x σ H2 hi hP => ?_) (fun σ H' hP => ?_)
    · obtain ⟨sm, hp2, N, y, rfl, rk2, nN, fr⟩ := hP
      rw [List.getElem?_map] at hi
      cases hj : ow[i]? with
      | none =>
        rw [hj] at hi
        cases hi
      | some j =>
        rw [hj] at hi
        cases (show some (num j) = some x from hi)
        have hlen : i < ow.length := by
          by_cases z : i < ow.length
          · exact z
          · rw [List.getElem?_eq_none (by omega)] at hj
            cases hj
        have tr := rd.tr _ _ _ _ rk2
        have few := tr0.few
        obtain ⟨dx, o, d, n, fs, e1, l1, l2, l3, nl, _⟩ := tr.ex
        have hlt : (ow.take i).length = i := by rw [List.length_take]; omega
        refine ⟨_, rfl, u, dx, fs, rfl, e1, nl _ (by decide), _, rfl, u, ow.take i, j, N, rfl, rk2, ?_, by omega, fun H3 N3 rk3 k3 n3 => ?_⟩
        · rw [hlt]
          exact tr0.low _ _ hj
        · refine ⟨fun c v z => k3 _ _ (fun y => by rw [fr _ y] at z; cases z) (sm _ _ z), k3 _ _ nN hp2, N3, _, rfl, ?_, fun z => ?_, fun c z => ?_⟩
          · rw [List.take_add_one, hj]
            exact rk3
          · rcases n3 _ z with h | h
            · exact nN h
            · rw [hp2] at h
              cases h
          · rcases n3 _ z with h | h
            · exact fr _ h
            · exact none_of sm h
    · obtain ⟨sm, hp2, N, y, rfl, rk2, nN, fr⟩ := hP
      have e : ow.take (ow.map num).length = ow := by
        rw [List.length_map]
        exact List.take_length
      rw [e] at rk2
      exact ⟨_, rfl, q H' N rk2 fr sm⟩
def spCopied (C : Addr) (R : (Addr → Prop) → Hp → Addr → List Nat → Prop) : Sp := fun vs H Q _ => ∃ (t : Addr) (ow : List Nat), vs = [.ref t] ∧ Tr H t C ow (depths ow) ∧
  ∀ (u : Addr) (H' : Hp) (N' : Addr → Prop), H u = none → R N' H' u ow → (∀ c, N' c → H c = none) → Same H H' → Q (.ref u) H'
theorem made_same {H H' : Hp} {t dx C : Addr} (n1 : H t = none) (n2 : H dx = none) (k : ∀ c u, c ≠ t → (upd (upd H dx (.own t)) t (.ins C dx [])) c = some u → H' c = some u) : Same H H' := fun c u z =>
  k c u (ne_of_none z n1) (by rw [upd_ne (ne_of_none z n1), upd_ne (ne_of_none z n2)]; exact z)
theorem ok_copiedL {fL : Addr} {fdL : FuncData} (TC : TreeC K C) (cL : mg "LeapTree" = some (.ref C)) (M_LeapTree : Mk K C fL) (B_LeapTree : Binds K fdL ["self"] []) (G_LeapTree : FnOk P w K mg base CX0 2 fL fdL ["self"] (spInitL C))
    (m__grown_alike : Met P w K mg base 5 C "_grown_alike" (spAlike C (Lw C)) []) (M : MAt K C "copied" "LeapTree.copied" s_LeapTree_copied ["self"]) : Met P w K mg base 6 C "copied" (spCopied C (Lw C)) [] := by
  refine M.met TC.cl sc_LeapTree_copied (fun vs H Q E h => ?_) (fun f cdv A outer s H vs Q E hr h => ?_)
  · obtain ⟨t, ow, rfl, _⟩ := h
    rfl
  · obtain ⟨t, ow, rfl, tr, q⟩ := h
    obtain ⟨dx, o, d, n, fs, e1, l1, l2, l3, nl, e2, e3, lf⟩ := tr.ex
    refine ⟨_, (pss_one (ps_ret (pe_mt m__grown_alike hr (by decide) (pv 0) (pa_cons (pe_make0 M_LeapTree G_LeapTree (hr.mono (by decide)) rfl cL B_LeapTree .nil pass0) pa_nil)))), ?_⟩
    refine ⟨_, rfl, t, dx, fs, rfl, e1, nl _ (by decide), ?_⟩
    intro u du n1 n2 ne
    refine ⟨u, du, rfl, upd_same, fun H1 N1 tw k1 f1 => ⟨rfl, ?_⟩⟩
    have sm := made_same n1 n2 k1
    exact ⟨t, u, ow, N1, H, rfl, sm, tr, tw, fun c hc => upd_none (upd_none (f1 c hc)), n1, fun H' N' r f s => q u H' N' n1 r f s⟩
end
end K41
set_option maxHeartbeats 1000000
namespace K41
open PySem PySem.Spec PyProof.Rows L2 Gd
open C8 (clsBody Met pe_mt pe_mt0)
def big30 : Int := 10 ^ 30 - 1
theorem b30 : big30 = 999999999999999999999999999999 := by decide
theorem none_of' {H H' : Hp} {p : Addr} (sm : Same H H') (h : H' p = none) : H p = none := by
  cases e : H p with
  | none => rfl
  | some u =>
    rw [sm p u e] at h
    cases h
/-- a class of rows in the lined way -/
structure RowC (K : PySem.W.Frag) (C : Addr) : Prop where
  cl : Cls K C
  n_size : NoAttr K C "_row_size"
  n_tree : NoAttr K C "_row_tree"
  n_places : NoAttr K C "_row_places"
  n_kept : NoAttr K C "_row_kept"
  n_steps : NoAttr K C "_row_steps"
  n_boxes : NoAttr K C "_boxes"
def rfields : List Str := ["_row_size", "_row_tree", "_row_places", "_row_kept", "_row_steps", "_boxes"]
def bfields : List Str := ["_row_size", "_row_tree", "_row_places", "_row_kept", "_row_steps"]
theorem getD_old {α : Type} {xs : List α} {x d : α} {i : Nat} (h : i < xs.length) : (xs ++ [x]).getD i d = xs.getD i d := by
  rw [List.getD_eq_getElem?_getD, List.getD_eq_getElem?_getD, List.getElem?_append_left h]
theorem getD_new {α : Type} {xs : List α} {x d : α} : (xs ++ [x]).getD xs.length d = x := by
  rw [List.getD_eq_getElem?_getD, List.getElem?_append_right (Nat.le_refl _), Nat.sub_self]
  rfl
/-- the makes from a make up to the writer of a place -/
def upw (ow pc : List Nat) (q : Nat) : Nat → Nat → List Nat
  | 0, i => [i]
  | f + 1, i => if i = 0 then [i] else if pc.getD (i - 1) 0 = q then [i] else i :: upw ow pc q f (par ow i)
/-- the writer -/
def wrt (ow pc : List Nat) (q : Nat) : Nat → Nat → Nat
  | 0, i => i
  | f + 1, i => if i = 0 then i else if pc.getD (i - 1) 0 = q then i else wrt ow pc q f (par ow i)
theorem upw_last (ow pc : List Nat) (q : Nat) : ∀ f i : Nat, ∃ pre, upw ow pc q f i = pre ++ [wrt ow pc q f i] ∧ pre.length ≤ f
  | 0, i => ⟨[], rfl, Nat.le_refl 0⟩
  | f + 1, i => by
    unfold upw wrt
    by_cases h : i = 0
    · rw [if_pos h, if_pos h]
      exact ⟨[], rfl, Nat.zero_le _⟩
    · rw [if_neg h, if_neg h]
      by_cases h2 : pc.getD (i - 1) 0 = q
      · rw [if_pos h2, if_pos h2]
        exact ⟨[], rfl, Nat.zero_le _⟩
      · rw [if_neg h2, if_neg h2]
        obtain ⟨pre, e, l⟩ := upw_last ow pc q f (par ow i)
        exact ⟨i :: pre, by rw [e]; rfl, Nat.succ_le_succ l⟩
theorem wrt_fit {ow : List Nat} (low : Low ow) (pc : List Nat) (q : Nat) : ∀ f i : Nat, i ≤ f → wrt ow pc q f i ≤ i ∧ (wrt ow pc q f i ≠ 0 → pc.getD (wrt ow pc q f i - 1) 0 = q)
  | 0, i, h => ⟨Nat.le_refl _, fun z => absurd (show i = 0 by omega) z⟩
  | f + 1, i, h => by
    unfold wrt
    by_cases h1 : i = 0
    · rw [if_pos h1]
      exact ⟨Nat.le_refl _, fun z => absurd h1 z⟩
    · rw [if_neg h1]
      by_cases h2 : pc.getD (i - 1) 0 = q
      · rw [if_pos h2]
        exact ⟨Nat.le_refl _, fun _ => h2⟩
      · rw [if_neg h2]
        have := par_lt low (i := i) (by omega)
        obtain ⟨a, b⟩ := wrt_fit low pc q f (par ow i) (by omega)
        exact ⟨by omega, b⟩
theorem wrt_more {ow : List Nat} (low : Low ow) (pc : List Nat) (q : Nat) : ∀ f i : Nat, i ≤ f → wrt ow pc q (f + 1) i = wrt ow pc q f i
  | 0, i, h => by
    obtain rfl : i = 0 := by omega
    rfl
  | f + 1, i, h => by
    rw [wrt]
    conv => rhs; rw [wrt]
    by_cases h1 : i = 0
    · rw [if_pos h1, if_pos h1]
    · rw [if_neg h1, if_neg h1]
      by_cases h2 : pc.getD (i - 1) 0 = q
      · rw [if_pos h2, if_pos h2]
      · have := par_lt low (i := i) (by omega)
        rw [if_neg h2, if_neg h2, wrt_more low pc q f _ (by omega)]
/-- the worth of a make at a place -/
def val (ws : List Int) (ow pc : List Nat) (vl : List Int) (q i : Nat) : Int := if wrt ow pc q 64 i = 0 then ws.getD q 0 else vl.getD (wrt ow pc q 64 i - 1) 0
theorem wrt_app {ow pc : List Nat} {i j : Nat} (low : Low ow) (lp : pc.length = ow.length) (q : Nat) : ∀ f k : Nat, k ≤ ow.length → wrt (ow ++ [i]) (pc ++ [j]) q f k = wrt ow pc q f k
  | 0, k, _ => rfl
  | f + 1, k, h => by
    unfold wrt
    by_cases h1 : k = 0
    · rw [if_pos h1, if_pos h1]
    · rw [if_neg h1, if_neg h1, getD_old (by omega)]
      by_cases h2 : pc.getD (k - 1) 0 = q
      · rw [if_pos h2, if_pos h2]
      · rw [if_neg h2, if_neg h2]
        have e : par (ow ++ [i]) k = par ow k := by
          unfold par
          exact getD_old (by omega)
        have := par_lt low (i := k) (by omega)
        rw [e]
        exact wrt_app low lp q f _ (by omega)
theorem wrt_new {ow pc : List Nat} {i j : Nat} (low : Low ow) (lp : pc.length = ow.length) (hi : i ≤ ow.length) (h62 : ow.length ≤ 62) (q : Nat) : wrt (ow ++ [i]) (pc ++ [j]) q 64 (ow.length + 1) = if j = q then ow.length + 1 else wrt ow pc q 64 i := by
  rw [wrt, if_neg (by omega), Nat.add_sub_cancel, ← lp, getD_new, lp]
  by_cases h : j = q
  · rw [if_pos h, if_pos h]
  · rw [if_neg h, if_neg h]
    have e : par (ow ++ [i]) (ow.length + 1) = i := by
      unfold par
      rw [Nat.add_sub_cancel]
      exact getD_new
    rw [e, wrt_app low lp q _ _ hi, wrt_more low pc q 63 i (by omega)]
theorem val_app {ws : List Int} {ow pc : List Nat} {vl : List Int} {i j : Nat} {x : Int} (low : Low ow) (lp : pc.length = ow.length) (lv : vl.length = ow.length) (h62 : ow.length ≤ 62) (q k : Nat) (hk : k ≤ ow.length) : val ws (ow ++ [i]) (pc ++ [j]) (vl ++ [x]) q k = val ws ow pc vl q k := by
  unfold val
  rw [wrt_app low lp q 64 k hk]
  obtain ⟨a, _⟩ := wrt_fit low pc q 64 k (by omega)
  by_cases z : wrt ow pc q 64 k = 0
  · rw [if_pos z, if_pos z]
  · rw [if_neg z, if_neg z]
    exact getD_old (by omega)
theorem val_new {ws : List Int} {ow pc : List Nat} {vl : List Int} {i j : Nat} {x : Int} (low : Low ow) (lp : pc.length = ow.length) (lv : vl.length = ow.length) (h62 : ow.length ≤ 62) (hi : i ≤ ow.length) (q : Nat) : val ws (ow ++ [i]) (pc ++ [j]) (vl ++ [x]) q (ow.length + 1) = if j = q then x else val ws ow pc vl q i := by
  unfold val
  rw [wrt_new low lp hi h62]
  by_cases h : j = q
  · rw [if_pos h, if_neg (by omega), if_pos h, Nat.add_sub_cancel, ← lv]
    exact getD_new
  · rw [if_neg h, if_neg h]
    obtain ⟨a, _⟩ := wrt_fit low pc q 64 i (by omega)
    by_cases z : wrt ow pc q 64 i = 0
    · rw [if_pos z, if_pos z]
    · rw [if_neg z, if_neg z]
      exact getD_old (by omega)
/-- the writes of a row: just those that a kept make needs -/
theorem wrt_none (q f : Nat) : wrt [] [] q f 0 = 0 := by
  cases f with
  | zero => rfl
  | succ f =>
    unfold wrt
    rw [if_pos rfl]
section
variable {P : Program} {w : World} {K : PySem.W.Frag} {mg : Str → Option Value} {base : Heap} {C CL : Addr}
def spWorth : Sp := fun vs H Q _ => ∃ n : Int, vs = [.int n] ∧ -big30 ≤ n ∧ n ≤ big30 ∧ Q (.bl true) H
theorem ok_worth (T : Txt K mg) (c_is_whole : C8.Cal P w K mg base 1 "is_whole" spWhI []) (D : DefAt K mg "is_worth" s_is_worth ["thing"]) : C8.Cal P w K mg base 2 "is_worth" spWorth [] := by
  obtain ⟨f, fd, F, m, b⟩ := D.ex
  refine ⟨f, fd, _, [], F.ok sc_is_worth (fun vs H Q E h => ?_) (fun cdv A outer s H vs Q E hr h => ?_), m, F.kp, b, .nil⟩
  · obtain ⟨n, rfl, _⟩ := h
    rfl
  · obtain ⟨n, rfl, h1, h2, q⟩ := h
    refine ⟨_, (pss_one (ps_ret (C8.pe_c c_is_whole hr (by decide) (by rfl) (pa_cons (pv 0) (pa_cons (pe_un un_neg (pe_gi rfl T.g_MOST_WORTH)) (pa_cons (pe_gi rfl T.g_MOST_WORTH) pa_nil)))))), ?_⟩
    exact ⟨_, rfl, _, rfl, n, -big30, big30, rfl, h1, h2, q⟩
theorem yesI {σ : L2.St} {H : Hp} {A B : Hp → Prop} (h : A H) : tYes σ H (fun b H3 => if b = true then A H3 else B H3) := by
  show if true = true then A H else B H
  rw [if_pos rfl]
  exact h
def spWorths : Sp := fun vs H Q _ => ∃ (a : Addr) (ws : List Int), vs = [.ref a] ∧ (H a = some (.lst (ws.map V.int)) ∨ H a = some (.tup (ws.map V.int))) ∧ 1 ≤ ws.length ∧ ws.length ≤ 16 ∧ (∀ x, x ∈ ws → -big30 ≤ x ∧ x ≤ big30) ∧ ∀ H', Same H H' → Q (.bl true) H'
theorem ok_worths (T : Txt K mg) (c_is_worth : C8.Cal P w K mg base 2 "is_worth" spWorth []) (D : DefAt K mg "is_worths" s_is_worths ["thing"]) : C8.Cal P w K mg base 3 "is_worths" spWorths [] := by
  obtain ⟨f, fd, F, m, b⟩ := D.ex
  refine ⟨f, fd, _, [], F.ok sc_is_worths (fun vs H Q E h => ?_) (fun cdv A outer s H vs Q E hr h => ?_), m, F.kp, b, .nil⟩
  · obtain ⟨a, ws, rfl, _⟩ := h
    rfl
  · obtain ⟨a, ws, rfl, ha, h1, h2, hw, q⟩ := h
    have hlen : (ws.map V.int).length = ws.length := List.length_map _
    rcases ha with ha | ha
    · refine ⟨_, (pss_cons (ps_if (PW.pt (pw_or (pt_not (pt_val (pe_callB call_isiT (by rfl) T.b_isinstance boot_isinstance_ (pa_cons (pv 0) (pa_cons (pe_tup (pa_cons (pe_bltn (v := .ty "list") (by rfl) T.t_list boot_list_ rfl) (pa_cons (pe_bltn (v := .ty "tuple") (by rfl) T.t_tuple boot_tuple_ rfl) pa_nil))) pa_nil))))) (pw_or1 (pt_not (pt_chain op_le op_le pe_int (pe_callB call_len (by rfl) T.b_len boot_len_ (pa_cons (pv 0) pa_nil)) (pe_gi rfl T.g_MOST_PLACES))))))
          (pss_one (ps_ret pe_bl)) pss_nil)
      (pss_one (ps_ret (pe_callB (cr_all rfl) (by rfl) T.b_all boot_all_ (pa_cons (pe_lc (own := [("worth", 1)]) (g := gName 1) (tt := tYes) rfl sc_is_worths.nd (pi_list (pv 0)) (blkOk_by (own := [("worth", 1)]) (N := ["thing", "worth"]) (sc := defScope s_is_worths) (by decide +kernel)) (fun _ _ _ _ _ => pg_name (i := 1) sc_is_worths.nd rfl (Or.inl rfl)) (fun _ _ _ _ _ => pts_nil) (fun _ _ _ _ _ => (C8.pe_c c_is_worth hr (by decide) (by rfl) (pa_cons (pv 1) pa_nil)))) pa_nil))))), ?_⟩
      refine ⟨_, rfl, (by show 2 ≤ sizeLine; decide), fun p hp => ?_⟩
      have sm := same_new (o := .tup [.ty "list", .ty "tuple"]) hp
      have hp1 : (upd H p (.tup [.ty "list", .ty "tuple"])) p = some (.tup [.ty "list", .ty "tuple"]) := upd_same
      generalize upd H p (.tup [.ty "list", .ty "tuple"]) = H1 at *
      have a1 := sm _ _ ha
      refine ⟨_, p, _, _, _, true, rfl, hp1, .cons (.ty _) (.cons (.ty _) .nil), tyL (SqL.of a1), kSeq (.list []), _, rfl, iteF ?_⟩
      refine ⟨_, rfl, .ref a, _, rfl, .inl ⟨_, SqL.of a1, rfl⟩, _, _, rfl, rfl, _, rfl, ?_⟩
      rw [hlen, if_pos (decide_eq_true (by omega : (1 : Int) ≤ (ws.length : Nat)))]
      refine ⟨_, _, rfl, rfl, _, rfl, ?_⟩
      rw [show decide (((ws.length : Nat) : Int) ≤ 16) = true from decide_eq_true (by omega)]
      refine iteF ?_
      refine ⟨_, rfl, a, rfl, ⟨_, SqL.of a1⟩, fun D hD => ?_⟩
      refine lc_it (walk_list (xs := ws.map V.int)) (fun i H' => Same H1 H' ∧ H' D = some (.lst (((ws.take i).map fun _ => true).map V.bl))) ⟨same_new hD, upd_same⟩ (fun i H' _ hP => SqL.of (hP.1 _ _ a1)) (fun i x H2 H3 hi hP hY => ?_) (fun H2 hP => ?_)
      · obtain ⟨s2, d2⟩ := hP
        obtain ⟨rfl, hx⟩ := hY
        rw [List.getElem?_map] at hx
        obtain ⟨n, hn, rfl⟩ : ∃ n, ws[i]? = some n ∧ x = .int n := by
          cases z : ws[i]? with
          | none =>
            rw [z] at hx
            cases hx
          | some n =>
            rw [z] at hx
            exact ⟨n, rfl, (Option.some.inj hx).symm⟩
        obtain ⟨b1, b2⟩ := hw n (List.mem_of_getElem? hn)
        refine ⟨rfl, yesI ?_⟩
        refine ⟨_, rfl, n, rfl, b1, b2, _, d2, ?_, fun c u z => ?_, ?_⟩
        · rw [List.length_map, List.length_map, List.length_take]
          exact small1000 (by omega)
        · rw [upd_ne (ne_of_none z hD)]
          exact s2 _ _ z
        · rw [upd_same, List.take_add_one, hn]
          simp
      · obtain ⟨s2, d2⟩ := hP
        rw [hlen, List.take_length] at d2
        refine ⟨D, ws.map fun _ => true, rfl, SqL.of d2, ?_⟩
        rw [show (ws.map fun _ => true).all id = true from by simp]
        exact q H2 (sm.trans s2)
    · refine ⟨_, (pss_cons (ps_if (PW.pt (pw_or (pt_not (pt_val (pe_callB call_isiT (by rfl) T.b_isinstance boot_isinstance_ (pa_cons (pv 0) (pa_cons (pe_tup (pa_cons (pe_bltn (v := .ty "list") (by rfl) T.t_list boot_list_ rfl) (pa_cons (pe_bltn (v := .ty "tuple") (by rfl) T.t_tuple boot_tuple_ rfl) pa_nil))) pa_nil))))) (pw_or1 (pt_not (pt_chain op_le op_le pe_int (pe_callB call_len (by rfl) T.b_len boot_len_ (pa_cons (pv 0) pa_nil)) (pe_gi rfl T.g_MOST_PLACES))))))
          (pss_one (ps_ret pe_bl)) pss_nil)
      (pss_one (ps_ret (pe_callB (cr_all rfl) (by rfl) T.b_all boot_all_ (pa_cons (pe_lc (own := [("worth", 1)]) (g := gName 1) (tt := tYes) rfl sc_is_worths.nd (pi_tup (pv 0)) (blkOk_by (own := [("worth", 1)]) (N := ["thing", "worth"]) (sc := defScope s_is_worths) (by decide +kernel)) (fun _ _ _ _ _ => pg_name (i := 1) sc_is_worths.nd rfl (Or.inl rfl)) (fun _ _ _ _ _ => pts_nil) (fun _ _ _ _ _ => (C8.pe_c c_is_worth hr (by decide) (by rfl) (pa_cons (pv 1) pa_nil)))) pa_nil))))), ?_⟩
      refine ⟨_, rfl, (by show 2 ≤ sizeLine; decide), fun p hp => ?_⟩
      have sm := same_new (o := .tup [.ty "list", .ty "tuple"]) hp
      have hp1 : (upd H p (.tup [.ty "list", .ty "tuple"])) p = some (.tup [.ty "list", .ty "tuple"]) := upd_same
      generalize upd H p (.tup [.ty "list", .ty "tuple"]) = H1 at *
      have a1 := sm _ _ ha
      refine ⟨_, p, _, _, _, true, rfl, hp1, .cons (.ty _) (.cons (.ty _) .nil), tyT (SqT.of a1), kSeq (.tuple []), _, rfl, iteF ?_⟩
      refine ⟨_, rfl, .ref a, _, rfl, .inr ⟨_, SqT.of a1, rfl⟩, _, _, rfl, rfl, _, rfl, ?_⟩
      rw [hlen, if_pos (decide_eq_true (by omega : (1 : Int) ≤ (ws.length : Nat)))]
      refine ⟨_, _, rfl, rfl, _, rfl, ?_⟩
      rw [show decide (((ws.length : Nat) : Int) ≤ 16) = true from decide_eq_true (by omega)]
      refine iteF ?_
      refine ⟨_, rfl, a, rfl, ⟨_, SqT.of a1⟩, fun D hD => ?_⟩
      refine lc_it (walk_tup (xs := ws.map V.int)) (fun i H' => Same H1 H' ∧ H' D = some (.lst (((ws.take i).map fun _ => true).map V.bl))) ⟨same_new hD, upd_same⟩ (fun i H' _ hP => SqT.of (hP.1 _ _ a1)) (fun i x H2 H3 hi hP hY => ?_) (fun H2 hP => ?_)
      · obtain ⟨s2, d2⟩ := hP
        obtain ⟨rfl, hx⟩ := hY
        rw [List.getElem?_map] at hx
        obtain ⟨n, hn, rfl⟩ : ∃ n, ws[i]? = some n ∧ x = .int n := by
          cases z : ws[i]? with
          | none =>
            rw [z] at hx
            cases hx
          | some n =>
            rw [z] at hx
            exact ⟨n, rfl, (Option.some.inj hx).symm⟩
        obtain ⟨b1, b2⟩ := hw n (List.mem_of_getElem? hn)
        refine ⟨rfl, yesI ?_⟩
        refine ⟨_, rfl, n, rfl, b1, b2, _, d2, ?_, fun c u z => ?_, ?_⟩
        · rw [List.length_map, List.length_map, List.length_take]
          exact small1000 (by omega)
        · rw [upd_ne (ne_of_none z hD)]
          exact s2 _ _ z
        · rw [upd_same, List.take_add_one, hn]
          simp
      · obtain ⟨s2, d2⟩ := hP
        rw [hlen, List.take_length] at d2
        refine ⟨D, ws.map fun _ => true, rfl, SqL.of d2, ?_⟩
        rw [show (ws.map fun _ => true).all id = true from by simp]
        exact q H2 (sm.trans s2)
end
end K41
set_option maxHeartbeats 1000000
namespace K41
open PySem PySem.Spec PyProof.Rows L2 Gd
open C8 (clsBody Met pe_mt pe_mt0)
structure ChX (H : Hp) (xs : List V) (cs : List (Nat × Int)) : Prop where
  len : xs.length = cs.length
  at_ : ∀ (i : Nat) (c : Nat × Int), cs[i]? = some c → ∃ t, xs[i]? = some (.ref t) ∧ H t = some (.tup [num c.1, .int c.2])
def KT (H H' : Hp) : Prop := ∀ (c : Addr) (ys : List V), H c = some (.tup ys) → H' c = some (.tup ys)
theorem KT.of {H H' : Hp} (s : Same H H') : KT H H' := fun c _ z => s c _ z
theorem ChX.kp {H H' : Hp} {xs : List V} {cs : List (Nat × Int)} (r : ChX H xs cs) (k : KT H H') : ChX H' xs cs := ⟨r.len, fun i c e => by
  obtain ⟨t, t1, t2⟩ := r.at_ i c e
  exact ⟨t, t1, k _ _ t2⟩⟩
theorem ChX.get {H : Hp} {xs : List V} {cs : List (Nat × Int)} (r : ChX H xs cs) {i : Nat} {x : V} (e : xs[i]? = some x) : ∃ c t, cs[i]? = some c ∧ x = .ref t ∧ H t = some (.tup [num c.1, .int c.2]) := by
  have hl : i < xs.length := by
    by_cases z : i < xs.length
    · exact z
    · rw [List.getElem?_eq_none (by omega)] at e
      cases e
  have hc : i < cs.length := by rw [← r.len]; exact hl
  obtain ⟨t, t1, t2⟩ := r.at_ i _ (List.getElem?_eq_getElem hc)
  rw [e] at t1
  exact ⟨_, t, List.getElem?_eq_getElem hc, Option.some.inj t1, t2⟩
/-- changes of a row of n places -/
def ChOk (cs : List (Nat × Int)) (n : Nat) : Prop := ∀ c, c ∈ cs → c.1 < n ∧ -big30 ≤ c.2 ∧ c.2 ≤ big30
/-- what the methods of Rows ask of a row at o: its own fields but those of its way -/
structure RowB (N : Addr → Prop) (H : Hp) (o C CL : Addr) (n : Nat) (ow pc ks : List Nat) (st : Int) (fs : List (Str × V)) : Prop where
  ex : ∃ (dx t p k : Addr) (Nt : Addr → Prop), H o = some (.ins C dx fs) ∧ fs.lookup ("_row_size" : Str) = some (num n) ∧ fs.lookup ("_row_tree" : Str) = some (.ref t) ∧ fs.lookup ("_row_places" : Str) = some (.ref p) ∧
    fs.lookup ("_row_kept" : Str) = some (.ref k) ∧ fs.lookup ("_row_steps" : Str) = some (.int st) ∧ (∀ f, f ∉ rfields → fs.lookup f = none) ∧ fs.length < 100 ∧ Lw CL Nt H t ow ∧ H p = some (.lst (.non :: pc.map num)) ∧ H k = some (.lst (ks.map num)) ∧
    N o ∧ N t ∧ N p ∧ N k ∧ (∀ c, Nt c → N c) ∧ ¬ Nt o ∧ ¬ Nt t ∧ ¬ Nt p ∧ ¬ Nt k ∧ p ≠ k ∧ o ≠ t
  lp : pc.length = ow.length
  sz : 1 ≤ n ∧ n ≤ 16
  pl : ∀ q, q ∈ pc → q < n
  kl : ∀ i, i ∈ ks → i ≤ ow.length
  kr : ks.Pairwise (· < ·)
section
variable {N : Addr → Prop} {H H' : Hp} {o C CL : Addr} {n : Nat} {ow pc ks : List Nat} {st : Int} {fs : List (Str × V)}
theorem RowB.kp (r : RowB N H o C CL n ow pc ks st fs) (k : ∀ c u, N c → H c = some u → H' c = some u) : RowB N H' o C CL n ow pc ks st fs := by
  obtain ⟨dx, t, p, kk, Nt, e1, l1, l2, l3, l4, l5, nl, lf, lw, e2, e3, No, Nt', Np, Nk, sub, x1, x2, x3, x4, x6, x7⟩ := r.ex
  exact ⟨⟨dx, t, p, kk, Nt, k _ _ No e1, l1, l2, l3, l4, l5, nl, lf, lw.kp (fun c u h z => k c u (h.elim (sub c) fun e => e ▸ Nt') z), k _ _ Np e2, k _ _ Nk e3, No, Nt', Np, Nk, sub, x1, x2, x3, x4, x6, x7⟩, r.lp, r.sz, r.pl, r.kl, r.kr⟩
theorem RowB.same (r : RowB N H o C CL n ow pc ks st fs) (s : Same H H') : RowB N H' o C CL n ow pc ks st fs := r.kp fun c u _ z => s c u z
theorem RowB.ins (r : RowB N H o C CL n ow pc ks st fs) : ∃ dx, H o = some (.ins C dx fs) ∧ (∀ f, f ∉ rfields → fs.lookup f = none) := by
  obtain ⟨dx, t, p, kk, Nt, e1, l1, l2, l3, l4, l5, nl, _⟩ := r.ex
  exact ⟨dx, e1, nl⟩
theorem RowB.own (r : RowB N H o C CL n ow pc ks st fs) : N o := by
  obtain ⟨_, _, _, _, _, _, _, _, _, _, _, _, _, _, _, _, No, _⟩ := r.ex
  exact No
theorem RowB.few (r : RowB N H o C CL n ow pc ks st fs) : fs.length < 100 := by
  obtain ⟨dx, t, p, kk, Nt, e1, l1, l2, l3, l4, l5, nl, lf, _⟩ := r.ex
  exact lf
theorem RowB.low (r : RowB N H o C CL n ow pc ks st fs) : Low ow ∧ ow.length ≤ 63 := by
  obtain ⟨dx, t, p, kk, Nt, e1, l1, l2, l3, l4, l5, nl, lf, lw, _⟩ := r.ex
  exact ⟨lw.tr.low, lw.tr.few⟩
theorem RowB.cut (r : RowB N H o C CL n ow pc ks st fs) : RowB (fun c => N c ∧ H c ≠ none) H o C CL n ow pc ks st fs := by
  obtain ⟨dx, t, p, kk, Nt, e1, l1, l2, l3, l4, l5, nl, lf, lw, e2, e3, No, Nt', Np, Nk, sub, x1, x2, x3, x4, x6, x7⟩ := r.ex
  have et : H t ≠ none := by
    obtain ⟨dx, o, d, n, fs, e1, _⟩ := lw.tr.ex
    rw [e1]
    simp
  exact ⟨⟨dx, t, p, kk, _, e1, l1, l2, l3, l4, l5, nl, lf, lw.cut, e2, e3, ⟨No, by rw [e1]; simp⟩, ⟨Nt', et⟩, ⟨Np, by rw [e2]; simp⟩, ⟨Nk, by rw [e3]; simp⟩, fun c h => ⟨sub c h.1, h.2⟩, fun h => x1 h.1, fun h => x2 h.1, fun h => x3 h.1, fun h => x4 h.1, x6, x7⟩, r.lp, r.sz, r.pl, r.kl, r.kr⟩
theorem RowB.mono {M : Addr → Prop} (r : RowB N H o C CL n ow pc ks st fs) (s : ∀ c, N c → M c) : RowB M H o C CL n ow pc ks st fs := by
  obtain ⟨dx, t, p, kk, Nt, e1, l1, l2, l3, l4, l5, nl, lf, lw, e2, e3, No, Nt', Np, Nk, sub, x1, x2, x3, x4, x6, x7⟩ := r.ex
  exact ⟨⟨dx, t, p, kk, Nt, e1, l1, l2, l3, l4, l5, nl, lf, lw, e2, e3, s _ No, s _ Nt', s _ Np, s _ Nk, fun c h => s _ (sub c h), x1, x2, x3, x4, x6, x7⟩, r.lp, r.sz, r.pl, r.kl, r.kr⟩
/-- a field of the way is set -/
theorem RowB.put {f : Str} {v : V} {dx : Addr} (r : RowB N H o C CL n ow pc ks st fs) (hf : f ∈ rfields) (hb : f ∉ bfields) (l : fs.length < 99) (e : H' o = some (.ins C dx (putF f v fs))) (k : ∀ c u, c ≠ o → N c → H c = some u → H' c = some u) : RowB N H' o C CL n ow pc ks st (putF f v fs) := by
  obtain ⟨dx0, t, p, kk, Nt, e1, l1, l2, l3, l4, l5, nl, lf, lw, e2, e3, No, Nt', Np, Nk, sub, x1, x2, x3, x4, x6, x7⟩ := r.ex
  have op : o ≠ p := fun z => by rw [z, e2] at e1; cases e1
  have ok : o ≠ kk := fun z => by rw [z, e3] at e1; cases e1
  have ne : ∀ g, g ∈ bfields → f ≠ g := fun g hg z => hb (z ▸ hg)
  refine ⟨⟨dx, t, p, kk, Nt, e, ?_, ?_, ?_, ?_, ?_, fun g hg => ?_, ?_, lw.kp (fun c u h z => k c u (h.elim (fun h e => x1 (e ▸ h)) fun e => e ▸ x7.symm) (h.elim (sub c) fun e => e ▸ Nt') z), k _ _ op.symm Np e2, k _ _ ok.symm Nk e3, No, Nt', Np, Nk, sub, x1, x2, x3, x4, x6, x7⟩, r.lp, r.sz, r.pl, r.kl, r.kr⟩
  · rw [lookup_putF, if_neg (ne _ (by decide)).symm]; exact l1
  · rw [lookup_putF, if_neg (ne _ (by decide)).symm]; exact l2
  · rw [lookup_putF, if_neg (ne _ (by decide)).symm]; exact l3
  · rw [lookup_putF, if_neg (ne _ (by decide)).symm]; exact l4
  · rw [lookup_putF, if_neg (ne _ (by decide)).symm]; exact l5
  · rw [lookup_putF, if_neg (fun z => hg (by rw [z]; exact hf))]; exact nl g hg
  · have := length_putF f v fs
    omega
end
end K41
set_option maxHeartbeats 1000000
namespace K41
open PySem PySem.Spec PyProof.Rows L2 Gd
open C8 (clsBody Met pe_mt pe_mt0)
theorem putF_len {f : Str} {v x : V} : ∀ {fs : List (Str × V)}, fs.lookup f = some x → (putF f v fs).length = fs.length
  | [], h => by cases h
  | (g, y) :: r, h => by
    unfold putF
    by_cases e : g = f
    · rw [if_pos e]
      rfl
    · rw [if_neg e]
      have e2 : (f == g) = false := by simpa using fun z => e z.symm
      rw [List.lookup_cons, e2] at h
      rw [List.length_cons, List.length_cons, putF_len h]
theorem eq_num (a b : Nat) : eqV (num a) (num b) = decide (a = b) := by
  show decide (((a : Nat) : Int) = ((b : Nat) : Int)) = _
  by_cases h : a = b
  · rw [decide_eq_true h, decide_eq_true (by omega)]
  · rw [decide_eq_false h, decide_eq_false (by omega)]
theorem flat_nums : ∀ xs : List Nat, (xs.map num).all flatV = true
  | [] => rfl
  | x :: xs => by
    rw [List.map_cons, List.all_cons, flat_nums xs]
    rfl
theorem in_nums {i : Nat} : ∀ {xs : List Nat}, i ∈ xs → inV (num i) (xs.map num) = true
  | x :: xs, h => by
    unfold inV
    rw [List.map_cons, List.any_cons, eq_num]
    rcases List.mem_cons.mp h with rfl | h
    · rw [decide_eq_true rfl, Bool.true_or]
    · have := in_nums h
      unfold inV at this
      rw [this, Bool.or_true]
section
variable {P : Program} {w : World} {K : PySem.W.Frag} {mg : Str → Option Value} {base : Heap} {C CL : Addr}
def spSize (C CL : Addr) : Sp := fun vs H Q _ => ∃ (N : Addr → Prop) (o : Addr) (n : Nat) (ow pc ks : List Nat) (st : Int) (fs : List (Str × V)), vs = [.ref o] ∧ RowB N H o C CL n ow pc ks st fs ∧ Q (num n) H
theorem ok_size (T : Txt K mg) (OC : RowC K C) (M : MAt K C "size" "Rows.size" s_Rows_size ["self"]) : Met P w K mg base 1 C "size" (spSize C CL) [] := by
  refine M.met OC.cl sc_Rows_size (fun vs H Q E h => ?_) (fun f cdv A outer s H vs Q E hr h => ?_)
  · obtain ⟨N, o, n, ow, pc, ks, st, fs, rfl, _⟩ := h
    rfl
  · obtain ⟨N, o, n, ow, pc, ks, st, fs, rfl, x, q⟩ := h
    obtain ⟨dx, t, p, kk, Nt, e1, l1, l2, l3, l4, l5, nl, lf, _⟩ := x.ex
    refine ⟨_, (pss_one (ps_ret (pe_fld (pv 0) rfl))), ?_⟩
    exact ⟨_, rfl, o, C, dx, fs, num n, rfl, e1, OC.cl, OC.n_size, l1, q⟩
def spRMany (C CL : Addr) : Sp := fun vs H Q _ => ∃ (N : Addr → Prop) (o : Addr) (n : Nat) (ow pc ks : List Nat) (st : Int) (fs : List (Str × V)), vs = [.ref o] ∧ RowB N H o C CL n ow pc ks st fs ∧ Q (num (ow.length + 1)) H
theorem ok_rmany (T : Txt K mg) (OC : RowC K C) (M : MAt K C "many" "Rows.many" s_Rows_many ["self"]) : Met P w K mg base 1 C "many" (spRMany C CL) [] := by
  refine M.met OC.cl sc_Rows_many (fun vs H Q E h => ?_) (fun f cdv A outer s H vs Q E hr h => ?_)
  · obtain ⟨N, o, n, ow, pc, ks, st, fs, rfl, _⟩ := h
    rfl
  · obtain ⟨N, o, n, ow, pc, ks, st, fs, rfl, x, q⟩ := h
    obtain ⟨dx, t, p, kk, Nt, e1, l1, l2, l3, l4, l5, nl, lf, lw, e2, e3, _⟩ := x.ex
    refine ⟨_, (pss_one (ps_ret (pe_callB call_len (by rfl) T.b_len boot_len_ (pa_cons (pe_fld (pv 0) rfl) pa_nil)))), ?_⟩
    refine ⟨_, rfl, o, C, dx, fs, .ref p, rfl, e1, OC.cl, OC.n_places, l3, .ref p, _, rfl, .inl ⟨_, SqL.of e2, rfl⟩, ?_⟩
    have e : (V.non :: pc.map num).length = ow.length + 1 := by rw [List.length_cons, List.length_map, x.lp]
    rw [e]
    exact q
def spNeedMk (C CL : Addr) : Sp := fun vs H Q _ => ∃ (N : Addr → Prop) (o : Addr) (n : Nat) (ow pc ks : List Nat) (st : Int) (fs : List (Str × V)) (i : Nat), vs = [.ref o, num i] ∧ RowB N H o C CL n ow pc ks st fs ∧ i ≤ ow.length ∧ i ∈ ks ∧ Q .non H
theorem ok_needmk (T : Txt K mg) (OC : RowC K C) (c_is_whole : C8.Cal P w K mg base 1 "is_whole" spWhI []) (m_many : Met P w K mg base 1 C "many" (spRMany C CL) []) (M : MAt K C "need_make" "Rows.need_make" s_Rows_need_make ["self", "make"]) : Met P w K mg base 2 C "need_make" (spNeedMk C CL) [] := by
  refine M.met OC.cl sc_Rows_need_make (fun vs H Q E h => ?_) (fun f cdv A outer s H vs Q E hr h => ?_)
  · obtain ⟨N, o, n, ow, pc, ks, st, fs, i, rfl, _⟩ := h
    rfl
  · obtain ⟨N, o, n, ow, pc, ks, st, fs, i, rfl, x, hi, hk, q⟩ := h
    obtain ⟨dx, t, p, kk, Nt, e1, l1, l2, l3, l4, l5, nl, lf, lw, e2, e3, _⟩ := x.ex
    refine ⟨_, (pss_one (ps_if (PW.pt (pw_or (pt_not (pt_val (C8.pe_c c_is_whole hr (by decide) (by rfl) (pa_cons (pv 1) (pa_cons pe_int (pa_cons (pe_op op_sub (pe_mt0 m_many hr (by decide) (pv 0)) pe_int) pa_nil)))))) (pw_or1 (pt_cmpR op_notIn_seq (pv 1) (pe_fld (pv 0) rfl) (by rfl)))))
          (pss_one ps_never) pss_nil)), ?_⟩
    refine ⟨_, rfl, _, rfl, o, dx, fs, rfl, e1, nl _ (by decide), N, o, n, ow, pc, ks, st, fs, rfl, x, _, _, rfl, rfl, ?_⟩
    refine ⟨(i : Nat), 0, (ow.length + 1 : Nat) - 1, rfl, by omega, by omega, _, rfl, iteF ?_⟩
    refine ⟨_, rfl, _, rfl, o, C, dx, fs, .ref kk, rfl, e1, OC.cl, OC.n_kept, l4, kk, _, rfl, .inl (SqL.of e3), rfl, flat_nums ks, ?_⟩
    rw [in_nums hk]
    exact ⟨_, rfl, iteF q⟩
def spNeedPl (C CL : Addr) : Sp := fun vs H Q _ => ∃ (N : Addr → Prop) (o : Addr) (n : Nat) (ow pc ks : List Nat) (st : Int) (fs : List (Str × V)) (j : Nat), vs = [.ref o, num j] ∧ RowB N H o C CL n ow pc ks st fs ∧ j < n ∧ Q .non H
theorem ok_needpl (T : Txt K mg) (OC : RowC K C) (c_is_whole : C8.Cal P w K mg base 1 "is_whole" spWhI []) (m_size : Met P w K mg base 1 C "size" (spSize C CL) []) (M : MAt K C "need_place" "Rows.need_place" s_Rows_need_place ["self", "place"]) : Met P w K mg base 2 C "need_place" (spNeedPl C CL) [] := by
  refine M.met OC.cl sc_Rows_need_place (fun vs H Q E h => ?_) (fun f cdv A outer s H vs Q E hr h => ?_)
  · obtain ⟨N, o, n, ow, pc, ks, st, fs, j, rfl, _⟩ := h
    rfl
  · obtain ⟨N, o, n, ow, pc, ks, st, fs, j, rfl, x, hj, q⟩ := h
    obtain ⟨dx, e1, nl⟩ := x.ins
    refine ⟨_, (pss_one (ps_if (pt_not (pt_val (C8.pe_c c_is_whole hr (by decide) (by rfl) (pa_cons (pv 1) (pa_cons pe_int (pa_cons (pe_op op_sub (pe_mt0 m_size hr (by decide) (pv 0)) pe_int) pa_nil))))))
          (pss_one ps_never) pss_nil)), ?_⟩
    refine ⟨_, rfl, _, rfl, o, dx, fs, rfl, e1, nl _ (by decide), N, o, n, ow, pc, ks, st, fs, rfl, x, _, _, rfl, rfl, ?_⟩
    exact ⟨(j : Nat), 0, (n : Nat) - 1, rfl, by omega, by omega, _, rfl, iteF q⟩
def spNew : Sp := fun vs H Q _ => ∃ (u v : V), vs = [u, v] ∧ Q .non H
theorem ok_new (T : Txt K mg) (OC : RowC K C) (M : MAt K C "need_new" "Rows.need_new" s_Rows_need_new ["self", "make"]) : Met P w K mg base 1 C "need_new" spNew [] := by
  refine M.met OC.cl sc_Rows_need_new (fun vs H Q E h => ?_) (fun f cdv A outer s H vs Q E hr h => ?_)
  · obtain ⟨u, v, rfl, _⟩ := h
    rfl
  · obtain ⟨u, v, rfl, q⟩ := h
    refine ⟨_, pss_one ps_pass, ?_⟩
    exact q
def spRoom (C CL : Addr) : Sp := fun vs H Q _ => ∃ (N : Addr → Prop) (o : Addr) (n : Nat) (ow pc ks : List Nat) (st : Int) (fs : List (Str × V)) (j : Nat), vs = [.ref o, num j] ∧ RowB N H o C CL n ow pc ks st fs ∧ ow.length + 1 + j ≤ 64 ∧ Q .non H
theorem ok_room (T : Txt K mg) (OC : RowC K C) (m_many : Met P w K mg base 1 C "many" (spRMany C CL) []) (M : MAt K C "_row_need_room_for" "Rows._row_need_room_for" s_Rows__row_need_room_for ["self", "more"]) : Met P w K mg base 2 C "_row_need_room_for" (spRoom C CL) [] := by
  refine M.met OC.cl sc_Rows__row_need_room_for (fun vs H Q E h => ?_) (fun f cdv A outer s H vs Q E hr h => ?_)
  · obtain ⟨N, o, n, ow, pc, ks, st, fs, j, rfl, _⟩ := h
    rfl
  · obtain ⟨N, o, n, ow, pc, ks, st, fs, j, rfl, x, hj, q⟩ := h
    obtain ⟨dx, e1, nl⟩ := x.ins
    refine ⟨_, (pss_cons (ps_set (i := 2) sc_Rows__row_need_room_for.nd rfl (Or.inl rfl) (pe_op op_add (pe_mt0 m_many hr (by decide) (pv 0)) (pv 1)))
      (pss_one (ps_if (pt_cmpR op_gt (pv 2) (pe_gi rfl T.g_MOST_MAKES) (nomark _))
          (pss_one ps_never) pss_nil))), ?_⟩
    refine ⟨_, rfl, o, dx, fs, rfl, e1, nl _ (by decide), N, o, n, ow, pc, ks, st, fs, rfl, x, _, rfl, _, _, rfl, rfl, ?_⟩
    refine ⟨_, rfl, _, _, rfl, rfl, _, rfl, ite2 (fun z => ?_) (fun _ => q)⟩
    have := of_decide_eq_true z
    omega
def spAdd (C CL : Addr) : Sp := fun vs H Q _ => ∃ (N : Addr → Prop) (o : Addr) (n : Nat) (ow pc ks : List Nat) (st : Int) (fs : List (Str × V)) (j : Nat), vs = [.ref o, num j] ∧ RowB N H o C CL n ow pc ks st fs ∧ ∀ H', RowB N H' o C CL n ow pc ks (st + (j : Nat)) (putF "_row_steps" (.int (st + (j : Nat))) fs) → (∀ c u, c ≠ o → H c = some u → H' c = some u) → Q .non H'
theorem ok_add (T : Txt K mg) (OC : RowC K C) (M : MAt K C "add_steps" "Rows.add_steps" s_Rows_add_steps ["self", "many"]) : Met P w K mg base 1 C "add_steps" (spAdd C CL) [] := by
  refine M.met OC.cl sc_Rows_add_steps (fun vs H Q E h => ?_) (fun f cdv A outer s H vs Q E hr h => ?_)
  · obtain ⟨N, o, n, ow, pc, ks, st, fs, j, rfl, _⟩ := h
    rfl
  · obtain ⟨N, o, n, ow, pc, ks, st, fs, j, rfl, x, q⟩ := h
    obtain ⟨dx, t, p, kk, Nt, e1, l1, l2, l3, l4, l5, nl, lf, lw, e2, e3, No, Nt', Np, Nk, sub, x1, x2, x3, x4, x6, x7⟩ := x.ex
    refine ⟨_, (pss_one (ps_fldaug (pv 0) (pv 1) in_add)), ?_⟩
    refine ⟨_, rfl, o, C, dx, fs, .int st, rfl, e1, OC.cl, OC.n_steps, l5, _, rfl, _, _, rfl, rfl, dx, fs, e1, by omega, ?_⟩
    have op : o ≠ p := fun z => by rw [z, e2] at e1; cases e1
    have ok : o ≠ kk := fun z => by rw [z, e3] at e1; cases e1
    have ka : ∀ c u, c ≠ o → H c = some u → (upd H o (.ins C dx (putF "_row_steps" (.int (st + (j : Nat))) fs))) c = some u := fun c u hc z => by
      rw [upd_ne hc]
      exact z
    have hlen := putF_len (v := .int (st + (j : Nat))) l5
    refine q _ ⟨⟨dx, t, p, kk, Nt, upd_same, ?_, ?_, ?_, ?_, ?_, fun g hg => ?_, by rw [hlen]; exact lf, lw.kp (fun c u h z => ka c u (h.elim (fun h e => x1 (e ▸ h)) fun e => e ▸ x7.symm) z), ka _ _ op.symm e2, ka _ _ ok.symm e3, No, Nt', Np, Nk, sub, x1, x2, x3, x4, x6, x7⟩, x.lp, x.sz, x.pl, x.kl, x.kr⟩ ka
    · rw [lookup_putF, if_neg (by decide)]; exact l1
    · rw [lookup_putF, if_neg (by decide)]; exact l2
    · rw [lookup_putF, if_neg (by decide)]; exact l3
    · rw [lookup_putF, if_neg (by decide)]; exact l4
    · rw [lookup_putF, if_pos rfl]
    · rw [lookup_putF, if_neg (fun z => hg (by rw [z]; decide))]
      exact nl g hg
end
end K41
set_option maxHeartbeats 1000000
namespace K41
open PySem PySem.Spec PyProof.Rows L2 Gd
open C8 (clsBody Met pe_mt pe_mt0)
section
variable {P : Program} {w : World} {K : PySem.W.Frag} {mg : Str → Option Value} {base : Heap} {C CL : Addr}
/-- _row_put: the rest is the store's -/
def spRPut (S : Sp) (C CL : Addr) : Sp := fun vs H Q E => ∃ (N : Addr → Prop) (o : Addr) (n : Nat) (ow pc ks : List Nat) (st : Int) (fs : List (Str × V)) (i j : Nat) (x : Int), vs = [.ref o, num i, num j, .int x] ∧ RowB N H o C CL n ow pc ks st fs ∧ i ≤ ow.length ∧ ow.length < 63 ∧ ks.length ≤ 100 ∧ j < n ∧
  ∀ (H' : Hp) (N' : Addr → Prop), RowB N' H' o C CL n (ow ++ [i]) (pc ++ [j]) (ks ++ [ow.length + 1]) st fs → (∀ c u, ¬ N c → H c = some u → H' c = some u) → (∀ c, N' c → N c ∨ H c = none) → ∀ (Q2 : VK) (E2 : XK), (∀ v H2, Q (num (ow.length + 1)) H2 → Q2 v H2) → S [.ref o, num i, num (ow.length + 1), num j, .int x] H' Q2 E2
theorem ok_rput {S : Sp} {kS : Nat} (T : Txt K mg) (OC : RowC K C) (m_grow : Met P w K mg base 4 CL "grow" (spGrowL CL) []) (m_store : Met P w K mg base 20 C "store" S []) (M : MAt K C "_row_put" "Rows._row_put" s_Rows__row_put ["self", "make", "place", "worth"]) : Met P w K mg base 21 C "_row_put" (spRPut S C CL) [] := by
  refine M.met OC.cl sc_Rows__row_put (fun vs H Q E h => ?_) (fun f cdv A outer s H vs Q E hr h => ?_)
  · obtain ⟨N, o, n, ow, pc, ks, st, fs, i, j, x, rfl, _⟩ := h
    rfl
  · obtain ⟨N, o, n, ow, pc, ks, st, fs, i, j, x, rfl, r, hi, hlt, hks, hj, q⟩ := h
    obtain ⟨dx, t, p, kk, Nt, e1, l1, l2, l3, l4, l5, nl, lf, lw, e2, e3, No, Nt', Np, Nk, sub, x1, x2, x3, x4, x6, x7⟩ := r.ex
    have op : o ≠ p := fun z => by rw [z, e2] at e1; cases e1
    have ok : o ≠ kk := fun z => by rw [z, e3] at e1; cases e1
    obtain ⟨dt, ft, et, nlt⟩ : ∃ dt ft, H t = some (.ins CL dt ft) ∧ ∀ m, m ∉ fields → ft.lookup m = none := by
      obtain ⟨dt, a, b, c, ft, e, _, _, _, nlt, _⟩ := lw.tr.ex
      exact ⟨dt, ft, e, nlt⟩
    refine ⟨_, (pss_cons (ps_set (i := 4) sc_Rows__row_put.nd rfl (Or.inl rfl) (pe_mt m_grow hr (by decide) (pe_fld (pv 0) rfl) (pa_cons (pv 1) pa_nil)))
      (pss_cons (ps_expr (pe_bm PySem.F.plainAttrs_list PySem.F.slot_list_append PySem.F.type_list_append mt_append (pe_fld (pv 0) rfl) (pa_cons (pv 2) pa_nil)))
      (pss_cons (ps_expr (pe_bm PySem.F.plainAttrs_list PySem.F.slot_list_append PySem.F.type_list_append mt_append (pe_fld (pv 0) rfl) (pa_cons (pv 4) pa_nil)))
      (pss_cons (ps_expr (pe_mt m_store hr (by decide) (pv 0) (pa_cons (pv 1) (pa_cons (pv 4) (pa_cons (pv 2) (pa_cons (pv 3) pa_nil))))))
      (pss_one (ps_ret (pv 4))))))), ?_⟩
    refine ⟨_, rfl, o, C, dx, fs, .ref t, rfl, e1, OC.cl, OC.n_tree, l2, t, dt, ft, rfl, et, nlt _ (by decide), _, rfl, t, ow, i, Nt, rfl, lw, hi, hlt, fun H1 Nu lw1 k1 f1 => ?_⟩
    have a1 := k1 _ _ x1 e1
    have a2 := k1 _ _ x3 e2
    have a3 := k1 _ _ x4 e3
    have nu : ∀ c u, ¬ Nt c → H c = some u → ¬ Nu c := fun c u h1 h2 h3 => (f1 c h3).elim h1 fun z => by rw [z] at h2; cases h2
    have y1 := nu _ _ x1 e1
    have y2 := nu _ _ x2 et
    have y3 := nu _ _ x3 e2
    have y4 := nu _ _ x4 e3
    refine ⟨_, rfl, o, C, dx, fs, .ref p, rfl, a1, OC.cl, OC.n_places, l3, .inl ⟨rfl, _, SqL.of a2⟩, _, rfl, p, _, _, rfl, rfl, a2, small1000 (by rw [List.length_cons, List.length_map, r.lp]; omega), ?_⟩
    have k2 : ∀ c u, c ≠ p → H1 c = some u → (upd H1 p (.lst ((.non :: pc.map num) ++ [num j]))) c = some u := fun c u hc z => by
      rw [upd_ne hc]
      exact z
    have b2 : (upd H1 p (.lst ((.non :: pc.map num) ++ [num j]))) p = some (.lst (.non :: (pc ++ [j]).map num)) := by
      rw [upd_same, List.map_append]
      rfl
    generalize upd H1 p (.lst ((.non :: pc.map num) ++ [num j])) = H2 at *
    refine ⟨_, rfl, o, C, dx, fs, .ref kk, rfl, k2 _ _ op a1, OC.cl, OC.n_kept, l4, .inl ⟨rfl, _, SqL.of (k2 _ _ x6.symm a3)⟩, _, rfl, kk, _, _, rfl, rfl, k2 _ _ x6.symm a3, small1000 (by rw [List.length_map]; omega), ?_⟩
    have k3 : ∀ c u, c ≠ kk → H2 c = some u → (upd H2 kk (.lst (ks.map num ++ [num (ow.length + 1)]))) c = some u := fun c u hc z => by
      rw [upd_ne hc]
      exact z
    have b3 : (upd H2 kk (.lst (ks.map num ++ [num (ow.length + 1)]))) kk = some (.lst ((ks ++ [ow.length + 1]).map num)) := by
      rw [upd_same, List.map_append]
      rfl
    generalize upd H2 kk (.lst (ks.map num ++ [num (ow.length + 1)])) = H3 at *
    have c1 := k3 _ _ ok (k2 _ _ op a1)
    have := r.sz
    have := r.lp
    have tp : t ≠ p := fun z => by rw [z, e2] at et; cases et
    have tk : t ≠ kk := fun z => by rw [z, e3] at et; cases et
    refine ⟨_, rfl, o, dx, fs, rfl, c1, nl _ (by decide), _, rfl, _, rfl, _, rfl, _, rfl, q H3 (fun c => N c ∨ Nu c) ⟨⟨dx, t, p, kk, Nu, c1, l1, l2, l3, l4, l5, nl, lf, lw1.kp (fun c u h z => ?_), k3 _ _ x6 b2, b3, .inl No, .inl Nt', .inl Np, .inl Nk, fun c h => .inr h, y1, y2, y3, y4, x6, x7⟩, ?_, r.sz, fun c hc => ?_, fun c hc => ?_, ?_⟩ (fun c u hc z => ?_) (fun c h => ?_) _ _ fun v H2 z => ⟨_, rfl, z⟩⟩
    · have hp : c ≠ p := fun e => h.elim (fun h => y3 (e ▸ h)) fun z => tp (z.symm.trans e)
      have hk : c ≠ kk := fun e => h.elim (fun h => y4 (e ▸ h)) fun z => tk (z.symm.trans e)
      exact k3 _ _ hk (k2 _ _ hp z)
    · rw [List.length_append, List.length_append, r.lp]
      rfl
    · rcases List.mem_append.mp hc with h | h
      · exact r.pl _ h
      · cases List.mem_singleton.mp h
        exact hj
    · rw [List.length_append]
      rcases List.mem_append.mp hc with h | h
      · exact Nat.le_succ_of_le (r.kl _ h)
      · cases List.mem_singleton.mp h
        exact Nat.le_refl _
    · refine List.pairwise_append.mpr ⟨r.kr, List.pairwise_singleton _ _, fun a ha b hb => ?_⟩
      rw [List.mem_singleton.mp hb]
      exact Nat.lt_succ_of_le (r.kl a ha)
    · exact k3 _ _ (fun e => hc (e ▸ Nk)) (k2 _ _ (fun e => hc (e ▸ Np)) (k1 _ _ (fun h => hc (sub c h)) z))
    · exact h.elim .inl fun h => (f1 c h).imp (sub c) id
end
end K41
set_option maxHeartbeats 1000000
namespace K41
open PySem PySem.Spec PyProof.Rows L2 Gd
open C8 (clsBody Met pe_mt pe_mt0)
theorem upw_zero (ow pc : List Nat) (q f : Nat) : upw ow pc q f 0 = [0] := by
  cases f with
  | zero => rfl
  | succ f =>
    unfold upw
    rw [if_pos rfl]
theorem at_pc {pc : List Nat} {i : Nat} (h0 : i ≠ 0) (h1 : i ≤ pc.length) : atI (V.non :: pc.map num) ((i : Nat) : Int) = some (num (pc.getD (i - 1) 0)) := by
  refine atI_nat ?_
  obtain ⟨j, rfl⟩ : ∃ j, i = j + 1 := ⟨i - 1, by omega⟩
  have hj : j < pc.length := by omega
  rw [List.getElem?_cons_succ, List.getElem?_map, List.getElem?_eq_getElem hj, Nat.add_sub_cancel, List.getD_eq_getElem?_getD, List.getElem?_eq_getElem hj]
  rfl
theorem num_eq {a b : Nat} (h : num a = num b) : a = b := by
  have := V.int.inj h
  omega
def plV (pc : List Nat) (i : Nat) : V := if i = 0 then .non else num (pc.getD (i - 1) 0)
theorem at_pl {pc : List Nat} {i : Nat} (h1 : i ≤ pc.length) : atI (V.non :: pc.map num) ((i : Nat) : Int) = some (plV pc i) := by
  unfold plV
  by_cases h0 : i = 0
  · rw [if_pos h0, h0]
    exact atI_nat (j := 0) rfl
  · rw [if_neg h0]
    exact at_pc h0 h1
section
variable {P : Program} {w : World} {K : PySem.W.Frag} {mg : Str → Option Value} {base : Heap} {C CL : Addr}
def spUpw (C CL : Addr) : Sp := fun vs H Q _ => ∃ (N : Addr → Prop) (o : Addr) (n : Nat) (ow pc ks : List Nat) (st : Int) (fs : List (Str × V)) (i j : Nat), vs = [.ref o, num i, num j] ∧ RowB N H o C CL n ow pc ks st fs ∧ i ≤ ow.length ∧
  ∀ (a : Addr) (H' : Hp), H a = none → Same H H' → H' a = some (.lst ((upw ow pc j 64 i).map num)) → Q (.ref a) H'
theorem ok_upw (T : Txt K mg) (OC : RowC K C) (m_own : Met P w K mg base 3 CL "own" (spOwn CL) []) (M : MAt K C "_up_to_writer" "Rows._up_to_writer" s_Rows__up_to_writer ["self", "make", "place"]) : Met P w K mg base 4 C "_up_to_writer" (spUpw C CL) [] := by
  refine M.met OC.cl sc_Rows__up_to_writer (fun vs H Q E h => ?_) (fun f cdv A outer s H vs Q E hr h => ?_)
  · obtain ⟨N, o, n, ow, pc, ks, st, fs, i, j, rfl, _⟩ := h
    rfl
  · obtain ⟨N, o, n, ow, pc, ks, st, fs, i, j, rfl, r, hi, q⟩ := h
    obtain ⟨dx, t, p, kk, Nt, e1, l1, l2, l3, l4, l5, nl, lf, lw, e2, e3, _⟩ := r.ex
    have tr := lw.tr
    have low : Low ow := tr.low
    have h63 := tr.few
    obtain ⟨dt, ft, et, nlt⟩ : ∃ dt ft, H t = some (.ins CL dt ft) ∧ ∀ m, m ∉ fields → ft.lookup m = none := by
      obtain ⟨dt, a, b, c, ft, e, _, _, _, nlt, _⟩ := tr.ex
      exact ⟨dt, ft, e, nlt⟩
    refine ⟨_, (pss_cons (ps_set (i := 3) sc_Rows__up_to_writer.nd rfl (Or.inl rfl) (pe_lst (pa_cons (pv 1) pa_nil)))
      (pss_cons (ps_while PassesOwn.never (PW.pt (pw_and (pt_cmpR op_ne (pe_ix ix_list (pv 3) (pe_un un_neg pe_int) (fun _ _ => rfl)) pe_int (nomark _)) (pw_and1 (pt_cmpR op_ne (pe_ix ix_list (pe_fld (pv 0) rfl) (pe_ix ix_list (pv 3) (pe_un un_neg pe_int) (fun _ _ => rfl)) (fun _ _ => rfl)) (pv 2) (nomark _)))))
          (pss_one (ps_expr (pe_bm PySem.F.plainAttrs_list PySem.F.slot_list_append PySem.F.type_list_append mt_append (pv 3) (pa_cons (pe_mt m_own hr (by decide) (pe_fld (pv 0) rfl) (pa_cons (pe_ix ix_list (pv 3) (pe_un un_neg pe_int) (fun _ _ => rfl)) pa_nil)) pa_nil)))))
      (pss_one (ps_ret (pv 3))))), ?_⟩
    refine ⟨_, rfl, (by show 1 ≤ sizeLine; decide), fun a ha => ?_⟩
    have s2 := same_new (o := .lst [num i]) ha
    have ea : (upd H a (.lst [num i])) a = some (.lst [num i]) := upd_same
    generalize upd H a (.lst [num i]) = H2 at *
    refine ⟨fun k σ H' => ∃ (cur f : Nat) (pre : List Nat), σ = [some (.ref o), some (num i), some (num j), some (.ref a)] ∧ H' a = some (.lst ((pre ++ [cur]).map num)) ∧ cur ≤ ow.length ∧ cur ≤ f ∧ pre.length + f = 64 ∧ Same H H' ∧ pre ++ upw ow pc j f cur = upw ow pc j 64 i ∧ k = cur,
      ⟨_, i, 64, [], rfl, ea, hi, by omega, rfl, s2, rfl, rfl⟩, ?_⟩
    rintro k σ H3 ⟨cur, f0, pre, rfl, ea3, hc, hf, hpre, s3, hd, rfl⟩
    rw [List.map_append] at ea3
    refine ⟨_, rfl, 1, rfl, a, _, _, num k, rfl, rfl, SqL.of ea3, atI_last _ _, rfl, _, rfl, ?_⟩
    have lp := r.lp
    have a1 := s3 _ _ e1
    have a2 := s3 _ _ e2
    by_cases hk0 : k = 0
    · subst hk0
      rw [upw_zero] at hd
      rw [← List.map_append, hd] at ea3
      have : (!decide (num 0 = V.int 0)) = false := by rfl
      rw [this]
      exact iteF ⟨_, rfl, q a H3 ha s3 ea3⟩
    · have : (!decide (num k = V.int 0)) = true := by
        have e0 : decide (num k = V.int 0) = false := decide_eq_false fun z => hk0 (num_eq (b := 0) z)
        rw [e0]
        rfl
      rw [this]
      refine iteT ?_
      refine ⟨_, rfl, o, C, dx, fs, .ref p, rfl, a1, OC.cl, OC.n_places, l3, _, rfl, 1, rfl, a, _, _, num k, rfl, rfl, SqL.of ea3, atI_last _ _, p, _, _, num (pc.getD (k - 1) 0), rfl, rfl, SqL.of a2, at_pc hk0 (by omega), _, rfl, rfl, _, rfl, ?_⟩
      obtain ⟨f0, rfl⟩ : ∃ g, f0 = g + 1 := ⟨f0 - 1, by omega⟩
      by_cases hp : pc.getD (k - 1) 0 = j
      · rw [hp, decide_eq_true rfl]
        rw [upw, if_neg hk0, if_pos hp] at hd
        rw [← List.map_append, hd] at ea3
        exact iteF ⟨_, rfl, q a H3 ha s3 ea3⟩
      · rw [decide_eq_false (fun z => hp (num_eq z))]
        rw [upw, if_neg hk0, if_neg hp] at hd
        have hpl := par_lt low (i := k) (by omega)
        refine iteT ⟨_, fun σ' H'' z => z, ?_⟩
        refine ⟨_, rfl, .inl ⟨rfl, _, SqL.of ea3⟩, _, rfl, o, C, dx, fs, .ref t, rfl, a1, OC.cl, OC.n_tree, l2, t, dt, ft, rfl, s3 _ _ et, nlt _ (by decide), _, rfl, 1, rfl, a, _, _, num k, rfl, rfl, SqL.of ea3, atI_last _ _, t, ow, _, k, rfl, tr.same s3, hc, ?_⟩
        unfold ownV
        rw [if_neg hk0]
        refine ⟨a, _, _, rfl, rfl, ea3, small1000 (by rw [List.length_append, List.length_map]; show pre.length + 1 ≤ 1000; omega), ?_⟩
        refine ⟨par ow k, hpl, par ow k, f0, pre ++ [k], rfl, ?_, by omega, by omega, by rw [List.length_append]; show pre.length + 1 + f0 = 64; omega, fun c u z => ?_, ?_, rfl⟩
        · rw [upd_same, List.map_append, List.map_append]
          rfl
        · rw [upd_ne (ne_of_none z ha)]
          exact s3 _ _ z
        · rw [← hd, List.append_assoc]
          rfl
/-- the makes up to the writer of a place -/
def spMakes (C CL : Addr) : Sp := fun vs H Q _ => ∃ (N : Addr → Prop) (o : Addr) (n : Nat) (ow pc ks : List Nat) (st : Int) (fs : List (Str × V)), vs = [.ref o] ∧ RowB N H o C CL n ow pc ks st fs ∧ ∀ (a : Addr) (H' : Hp), H a = none → H' a = some (.lst (ks.map num)) → Same H H' → Q (.ref a) H'
theorem ok_makes (T : Txt K mg) (OC : RowC K C) (M : MAt K C "makes" "Rows.makes" s_Rows_makes ["self"]) : Met P w K mg base 1 C "makes" (spMakes C CL) [] := by
  refine M.met OC.cl sc_Rows_makes (fun vs H Q E h => ?_) (fun f cdv A outer s H vs Q E hr h => ?_)
  · obtain ⟨N, o, n, ow, pc, ks, st, fs, rfl, _⟩ := h
    rfl
  · obtain ⟨N, o, n, ow, pc, ks, st, fs, rfl, r, q⟩ := h
    obtain ⟨dx, t, p, kk, Nt, e1, l1, l2, l3, l4, l5, nl, lf, lw, e2, e3, _⟩ := r.ex
    refine ⟨_, (pss_one (ps_ret (pe_callTy call_list_of (by rfl) T.t_list boot_list_ (pa_cons (pe_fld (pv 0) rfl) pa_nil)))), ?_⟩
    exact ⟨_, rfl, o, C, dx, fs, .ref kk, rfl, e1, OC.cl, OC.n_kept, l4, kk, _, rfl, .inl (SqL.of e3), fun a ha => q a _ ha upd_same (same_new ha)⟩
def spRTree (C CL : Addr) : Sp := fun vs H Q _ => ∃ (N : Addr → Prop) (o : Addr) (n : Nat) (ow pc ks : List Nat) (st : Int) (fs : List (Str × V)), vs = [.ref o] ∧ RowB N H o C CL n ow pc ks st fs ∧ ∀ (u : Addr) (H' : Hp) (N' : Addr → Prop), H u = none → Lw CL N' H' u ow → (∀ c, N' c → H c = none) → Same H H' → Q (.ref u) H'
theorem ok_rtree (T : Txt K mg) (OC : RowC K C) (m_copied : Met P w K mg base 6 CL "copied" (spCopied CL (Lw CL)) []) (M : MAt K C "tree" "Rows.tree" s_Rows_tree ["self"]) : Met P w K mg base 7 C "tree" (spRTree C CL) [] := by
  refine M.met OC.cl sc_Rows_tree (fun vs H Q E h => ?_) (fun f cdv A outer s H vs Q E hr h => ?_)
  · obtain ⟨N, o, n, ow, pc, ks, st, fs, rfl, _⟩ := h
    rfl
  · obtain ⟨N, o, n, ow, pc, ks, st, fs, rfl, r, q⟩ := h
    obtain ⟨dx, t, p, kk, Nt, e1, l1, l2, l3, l4, l5, nl, lf, lw, e2, e3, _⟩ := r.ex
    obtain ⟨dt, ft, et, nlt⟩ : ∃ dt ft, H t = some (.ins CL dt ft) ∧ ∀ m, m ∉ fields → ft.lookup m = none := by
      obtain ⟨dt, a, b, c, ft, e, _, _, _, nlt, _⟩ := lw.tr.ex
      exact ⟨dt, ft, e, nlt⟩
    refine ⟨_, (pss_one (ps_ret (pe_mt0 m_copied hr (by decide) (pe_fld (pv 0) rfl)))), ?_⟩
    exact ⟨_, rfl, o, C, dx, fs, .ref t, rfl, e1, OC.cl, OC.n_tree, l2, t, dt, ft, rfl, et, nlt _ (by decide), t, ow, rfl, lw.tr, q⟩
def spThere (C CL : Addr) : Sp := fun vs H Q _ => ∃ (N : Addr → Prop) (o : Addr) (n : Nat) (ow pc ks : List Nat) (st : Int) (fs : List (Str × V)) (i : Nat), vs = [.ref o, num i] ∧ RowB N H o C CL n ow pc ks st fs ∧ i ≤ ow.length ∧ Q .non H
theorem ok_there (T : Txt K mg) (OC : RowC K C) (c_is_whole : C8.Cal P w K mg base 1 "is_whole" spWhI []) (m_many : Met P w K mg base 1 C "many" (spRMany C CL) []) (M : MAt K C "_row_need_there" "Rows._row_need_there" s_Rows__row_need_there ["self", "make"]) : Met P w K mg base 2 C "_row_need_there" (spThere C CL) [] := by
  refine M.met OC.cl sc_Rows__row_need_there (fun vs H Q E h => ?_) (fun f cdv A outer s H vs Q E hr h => ?_)
  · obtain ⟨N, o, n, ow, pc, ks, st, fs, i, rfl, _⟩ := h
    rfl
  · obtain ⟨N, o, n, ow, pc, ks, st, fs, i, rfl, x, hi, q⟩ := h
    obtain ⟨dx, e1, nl⟩ := x.ins
    refine ⟨_, (pss_one (ps_if (pt_not (pt_val (C8.pe_c c_is_whole hr (by decide) (by rfl) (pa_cons (pv 1) (pa_cons pe_int (pa_cons (pe_op op_sub (pe_mt0 m_many hr (by decide) (pv 0)) pe_int) pa_nil))))))
          (pss_one ps_never) pss_nil)), ?_⟩
    refine ⟨_, rfl, _, rfl, o, dx, fs, rfl, e1, nl _ (by decide), N, o, n, ow, pc, ks, st, fs, rfl, x, _, _, rfl, rfl, ?_⟩
    exact ⟨(i : Nat), 0, ((ow.length + 1 : Nat) : Int) - 1, rfl, by omega, by omega, _, rfl, iteF q⟩
def spWriterR (C CL : Addr) : Sp := fun vs H Q _ => ∃ (N : Addr → Prop) (o : Addr) (n : Nat) (ow pc ks : List Nat) (st : Int) (fs : List (Str × V)) (i j : Nat), vs = [.ref o, num i, num j] ∧ RowB N H o C CL n ow pc ks st fs ∧ i ≤ ow.length ∧ j < n ∧ ∀ H', Same H H' → Q (num (wrt ow pc j 64 i)) H'
theorem ok_writer (T : Txt K mg) (OC : RowC K C) (m__row_need_there : Met P w K mg base 2 C "_row_need_there" (spThere C CL) []) (m_need_place : Met P w K mg base 2 C "need_place" (spNeedPl C CL) []) (m__up_to_writer : Met P w K mg base 4 C "_up_to_writer" (spUpw C CL) []) (M : MAt K C "writer" "Rows.writer" s_Rows_writer ["self", "make", "place"]) : Met P w K mg base 5 C "writer" (spWriterR C CL) [] := by
  refine M.met OC.cl sc_Rows_writer (fun vs H Q E h => ?_) (fun f cdv A outer s H vs Q E hr h => ?_)
  · obtain ⟨N, o, n, ow, pc, ks, st, fs, i, j, rfl, _⟩ := h
    rfl
  · obtain ⟨N, o, n, ow, pc, ks, st, fs, i, j, rfl, r, hi, hj, q⟩ := h
    obtain ⟨dx, e1, nl⟩ := r.ins
    obtain ⟨pre, ew, lw⟩ := upw_last ow pc j 64 i
    refine ⟨_, (pss_cons (ps_expr (pe_mt m__row_need_there hr (by decide) (pv 0) (pa_cons (pv 1) pa_nil)))
      (pss_cons (ps_expr (pe_mt m_need_place hr (by decide) (pv 0) (pa_cons (pv 2) pa_nil)))
      (pss_one (ps_ret (pe_ix ix_list (pe_mt m__up_to_writer hr (by decide) (pv 0) (pa_cons (pv 1) (pa_cons (pv 2) pa_nil))) (pe_un un_neg pe_int) (fun _ _ => rfl)))))), ?_⟩
    refine ⟨_, rfl, o, dx, fs, rfl, e1, nl _ (by decide), _, rfl, N, o, n, ow, pc, ks, st, fs, i, rfl, r, hi, ?_⟩
    refine ⟨_, rfl, o, dx, fs, rfl, e1, nl _ (by decide), _, rfl, N, o, n, ow, pc, ks, st, fs, j, rfl, r, hj, ?_⟩
    refine ⟨_, rfl, o, dx, fs, rfl, e1, nl _ (by decide), _, rfl, _, rfl, N, o, n, ow, pc, ks, st, fs, i, j, rfl, r, hi, fun a H1 ha s1 ea => ?_⟩
    rw [ew, List.map_append] at ea
    exact ⟨1, rfl, a, _, _, num (wrt ow pc j 64 i), rfl, rfl, SqL.of ea, atI_last _ _, q _ s1⟩
def spSteps (C CL : Addr) : Sp := fun vs H Q _ => ∃ (N : Addr → Prop) (o : Addr) (n : Nat) (ow pc ks : List Nat) (st : Int) (fs : List (Str × V)), vs = [.ref o] ∧ RowB N H o C CL n ow pc ks st fs ∧ Q (.int st) H
theorem ok_steps (T : Txt K mg) (OC : RowC K C) (M : MAt K C "steps" "Rows.steps" s_Rows_steps ["self"]) : Met P w K mg base 1 C "steps" (spSteps C CL) [] := by
  refine M.met OC.cl sc_Rows_steps (fun vs H Q E h => ?_) (fun f cdv A outer s H vs Q E hr h => ?_)
  · obtain ⟨N, o, n, ow, pc, ks, st, fs, rfl, _⟩ := h
    rfl
  · obtain ⟨N, o, n, ow, pc, ks, st, fs, rfl, x, q⟩ := h
    obtain ⟨dx, t, p, kk, Nt, e1, l1, l2, l3, l4, l5, nl, lf, _⟩ := x.ex
    refine ⟨_, (pss_one (ps_ret (pe_fld (pv 0) rfl))), ?_⟩
    exact ⟨_, rfl, o, C, dx, fs, .int st, rfl, e1, OC.cl, OC.n_steps, l5, q⟩
end
end K41
set_option maxHeartbeats 1000000
namespace K41
open PySem PySem.Spec PyProof.Rows L2 Gd
open C8 (clsBody Met pe_mt pe_mt0)
theorem line_fst {ow : List Nat} (low : Low ow) : ∀ i : Nat, (line ow i)[0]? = some 0 := by
  intro i
  induction i using Nat.strongRecOn with
  | _ i ih =>
    by_cases z : i = 0
    · rw [z]
      rfl
    · rw [line_step low (by omega)]
      have h := ih _ (par_lt low (i := i) (by omega))
      have hl : 0 < (line ow (par ow i)).length := by
        cases e : line ow (par ow i) with
        | nil => rw [e] at h; cases h
        | cons x xs => exact Nat.succ_pos _
      rw [List.getElem?_append_left hl]
      exact h
theorem line_next {ow : List Nat} (low : Low ow) : ∀ (i k x y : Nat), (line ow i)[k]? = some x → (line ow i)[k + 1]? = some y → 0 < y ∧ par ow y = x := by
  intro i
  induction i using Nat.strongRecOn with
  | _ i ih =>
    intro k x y h1 h2
    by_cases z : i = 0
    · rw [z] at h2
      cases k <;> cases h2
    · have hp := par_lt low (i := i) (by omega)
      rw [line_step low (by omega)] at h1 h2
      by_cases hk : k + 1 < (line ow (par ow i)).length
      · rw [List.getElem?_append_left hk] at h2
        rw [List.getElem?_append_left (by omega)] at h1
        exact ih _ hp k x y h1 h2
      · have hk2 : k + 1 = (line ow (par ow i)).length := by
          by_cases w : k + 1 = (line ow (par ow i)).length
          · exact w
          · rw [List.getElem?_eq_none (by rw [List.length_append]; show _ + 1 ≤ _; omega)] at h2
            cases h2
        rw [hk2, List.getElem?_append_right (Nat.le_refl _), Nat.sub_self] at h2
        cases h2
        obtain ⟨us, e, _⟩ := line_last low (par ow i)
        rw [e, List.length_append] at hk2
        have hk3 : k = us.length := by
          have : k + 1 = us.length + 1 := hk2
          omega
        rw [List.getElem?_append_left (by rw [e, List.length_append]; show k < us.length + 1; omega), e, List.getElem?_append_right (by omega), hk3, Nat.sub_self] at h1
        cases h1
        exact ⟨by omega, rfl⟩
theorem line_end {ow : List Nat} (low : Low ow) {i k x : Nat} (h : (line ow i)[k]? = some x) (e : k + 1 = (line ow i).length) : x = i := by
  obtain ⟨us, e2, _⟩ := line_last low i
  rw [e2, List.length_append] at e
  have e : k = us.length := by
    have : k + 1 = us.length + 1 := e
    omega
  rw [e2, List.getElem?_append_right (by omega), e, Nat.sub_self] at h
  cases h
  rfl
theorem wrt_step {ow : List Nat} (low : Low ow) (pc : List Nat) (q : Nat) {y : Nat} (h0 : 0 < y) (h : y ≤ 64) : wrt ow pc q 64 y = if pc.getD (y - 1) 0 = q then y else wrt ow pc q 64 (par ow y) := by
  have hp := par_lt low h0
  rw [wrt, if_neg (by omega), wrt_more low pc q 63 _ (by omega)]
/-- the writers of all places -/
def wrs (ow pc : List Nat) (n i : Nat) : List Nat := (List.range n).map fun q => wrt ow pc q 64 i
theorem wrs_len (ow pc : List Nat) (n i : Nat) : (wrs ow pc n i).length = n := by
  unfold wrs
  rw [List.length_map, List.length_range]
theorem wrs_zero (ow pc : List Nat) (n : Nat) : wrs ow pc n 0 = List.replicate n 0 := by
  unfold wrs
  apply List.ext_getElem?
  intro j
  rw [List.getElem?_map, List.getElem?_replicate]
  by_cases h : j < n
  · rw [List.getElem?_range h, if_pos h]
    rfl
  · rw [List.getElem?_eq_none (by rw [List.length_range]; omega), if_neg h]
    rfl
theorem wrs_step {ow : List Nat} (low : Low ow) (pc : List Nat) (n : Nat) {y : Nat} (h0 : 0 < y) (h : y ≤ 64) : wrs ow pc n y = (wrs ow pc n (par ow y)).set (pc.getD (y - 1) 0) y := by
  unfold wrs
  apply List.ext_getElem?
  intro j
  rw [List.getElem?_set, List.getElem?_map, List.getElem?_map, List.length_map, List.length_range]
  by_cases hj : j < n
  · rw [List.getElem?_range hj]
    show some (wrt ow pc j 64 y) = _
    rw [wrt_step low pc j h0 h]
    by_cases e : pc.getD (y - 1) 0 = j
    · rw [if_pos e, if_pos e, if_pos (by omega)]
    · rw [if_neg e, if_neg e]
      rfl
  · rw [List.getElem?_eq_none (by rw [List.length_range]; omega)]
    by_cases e : pc.getD (y - 1) 0 = j
    · rw [if_pos e, if_neg (by omega)]
      rfl
    · rw [if_neg e]
      rfl
def freeQ (ow pc ks : List Nat) (i q : Nat) : Bool := ks.all fun k => decide (wrt ow pc q 64 k ≠ wrt ow pc q 64 i)
def freeL (ow pc ks : List Nat) (i n : Nat) : List (Nat × Nat) := ((List.range n).filter (freeQ ow pc ks i)).map fun q => (q, wrt ow pc q 64 i)
/-- a list of pairs -/
structure PrX (H : Hp) (xs : List V) (ps : List (Nat × Nat)) : Prop where
  len : xs.length = ps.length
  at_ : ∀ (i : Nat) (p : Nat × Nat), ps[i]? = some p → ∃ t, xs[i]? = some (.ref t) ∧ H t = some (.tup [num p.1, num p.2])
theorem PrX.snoc {H H' : Hp} {xs : List V} {ps : List (Nat × Nat)} (r : PrX H xs ps) (k : ∀ c ys, H c = some (.tup ys) → H' c = some (.tup ys)) {t : Addr} {p : Nat × Nat} (e : H' t = some (.tup [num p.1, num p.2])) : PrX H' (xs ++ [.ref t]) (ps ++ [p]) := by
  refine ⟨by rw [List.length_append, List.length_append, r.len]; rfl, fun i c h => ?_⟩
  by_cases hi : i < ps.length
  · rw [List.getElem?_append_left hi] at h
    rw [List.getElem?_append_left (by rw [r.len]; exact hi)]
    obtain ⟨u, h1, h2⟩ := r.at_ i c h
    exact ⟨u, h1, k _ _ h2⟩
  · rw [List.getElem?_append_right (by omega)] at h
    rw [List.getElem?_append_right (by rw [r.len]; omega), r.len]
    cases z : i - ps.length with
    | zero =>
      rw [z] at h
      cases h
      exact ⟨t, rfl, e⟩
    | succ j =>
      rw [z] at h
      cases h
theorem snoc_ref {xs : List V} {t : Addr} {P : Addr → Prop} (h : ∀ (j : Nat) (u : Addr), xs[j]? = some (.ref u) → P u) (ht : P t) : ∀ (j : Nat) (u : Addr), (xs ++ [V.ref t])[j]? = some (.ref u) → P u := fun j u e => by
  by_cases hi : j < xs.length
  · rw [List.getElem?_append_left hi] at e
    exact h j u e
  · rw [List.getElem?_append_right (by omega)] at e
    cases z : j - xs.length with
    | zero =>
      rw [z] at e
      cases e
      exact ht
    | succ n =>
      rw [z] at e
      cases e
theorem bl_ne (a b : Nat) : (!decide (num a = num b)) = decide (a ≠ b) := by
  by_cases z : a = b
  · rw [z]
    simp
  · have : num a ≠ num b := fun e => z (num_eq e)
    simp [z, this]
section
variable {P : Program} {w : World} {K : PySem.W.Frag} {mg : Str → Option Value} {base : Heap} {C CL : Addr}
def spLine (C : Addr) : Sp := fun vs H Q _ => ∃ (t : Addr) (ow ds : List Nat) (i : Nat), vs = [.ref t, num i] ∧ Tr H t C ow ds ∧ i ≤ ow.length ∧ ∀ (p : Addr) (H' : Hp), H p = none → Same H H' → H' p = some (.lst ((line ow i).map num)) → Q (.ref p) H'
theorem ok_line (T : Txt K mg) (TC : TreeC K C) (m__need_make : Met P w K mg base 2 C "_need_make" (spNeed C) []) (M : MAt K C "line" "MakeTree.line" s_MakeTree_line ["self", "make"]) :
    Met P w K mg base 3 C "line" (spLine C) [] := by
  refine M.met TC.cl sc_MakeTree_line (fun vs H Q E h => ?_) (fun f cdv A outer s H vs Q E hr h => ?_)
  · obtain ⟨t, ow, ds, i, rfl, _⟩ := h
    rfl
  · obtain ⟨t, ow, ds, i, rfl, tr, hi, q⟩ := h
    obtain ⟨dx, o, d, n, fs, e1, l1, l2, l3, nl, e2, e3, lf⟩ := tr.ex
    refine ⟨_, (pss_cons (ps_expr (pe_mt m__need_make hr (by decide) (pv 0) (pa_cons (pv 1) pa_nil)))
      (pss_cons (ps_set (i := 2) sc_MakeTree_line.nd rfl (Or.inl rfl) (pe_lst (pa_cons (pv 1) pa_nil)))
      (pss_cons (ps_while PassesOwn.never (pt_cmpR op_notN (pe_ix ix_list (pe_fld (pv 0) rfl) (pe_ix ix_list (pv 2) (pe_un un_neg pe_int) (fun _ _ => rfl)) (fun _ _ => rfl)) pe_non (nomark _))
          (pss_one (ps_expr (pe_bm PySem.F.plainAttrs_list PySem.F.slot_list_append PySem.F.type_list_append mt_append (pv 2) (pa_cons (pe_ix ix_list (pe_fld (pv 0) rfl) (pe_ix ix_list (pv 2) (pe_un un_neg pe_int) (fun _ _ => rfl)) (fun _ _ => rfl)) pa_nil)))))
      (pss_one (ps_ret (pe_revL (pv 2))))))), ?_⟩
    refine ⟨_, rfl, t, dx, fs, rfl, e1, nl _ (by decide), _, rfl, t, ow, ds, i, rfl, tr, hi, ?_⟩
    refine ⟨_, rfl, (by show 1 ≤ sizeLine; decide), fun l hl => ?_⟩
    refine ⟨fun m σ H' => Same H H' ∧ ∃ us : List Nat, σ = [some (.ref t), some (num i), some (.ref l)] ∧ H' l = some (.lst ((us ++ [m]).map num)) ∧ line ow m ++ us.reverse = line ow i ∧ us.length + m ≤ i, ⟨i, same_new hl, [], rfl, upd_same, List.append_nil _, by simp⟩, ?_⟩
    rintro m σ H' ⟨sm, us, rfl, hL, hli, hle⟩
    have hlast : atI ((us ++ [m]).map num) (-1) = some (num m) := by
      rw [List.map_append]
      exact atI_last _ _
    have few := tr.few
    refine ⟨_, rfl, t, C, dx, fs, .ref o, rfl, sm _ _ e1, TC.cl, TC.n_owns, l1, _, rfl, _, rfl, l, _, _, _, rfl, rfl, SqL.of hL, hlast, ?_⟩
    by_cases hm : 0 < m
    · refine ⟨o, _, _, _, rfl, rfl, SqL.of (sm _ _ e2), at_own hm (by omega), rfl, _, rfl, iteT ?_⟩
      have hp := par_lt tr.low hm
      refine ⟨fun σ' H'' => ∃ m', m' < m ∧ Same H H'' ∧ ∃ us : List Nat, σ' = [some (.ref t), some (num i), some (.ref l)] ∧ H'' l = some (.lst ((us ++ [m']).map num)) ∧ line ow m' ++ us.reverse = line ow i ∧ us.length + m' ≤ i, fun σ' H'' z => z, ?_⟩
      refine ⟨_, rfl, .inl ⟨rfl, _, SqL.of hL⟩, ?_⟩
      refine ⟨_, rfl, t, C, dx, fs, .ref o, rfl, sm _ _ e1, TC.cl, TC.n_owns, l1, _, rfl, _, rfl, l, _, _, _, rfl, rfl, SqL.of hL, hlast, ?_⟩
      refine ⟨o, _, _, _, rfl, rfl, SqL.of (sm _ _ e2), at_own hm (by omega), ?_⟩
      refine ⟨l, _, _, rfl, rfl, hL, ?_, par ow m, hp, fun c u z => ?_, us ++ [m], rfl, ?_, ?_, ?_⟩
      · rw [List.length_map, List.length_append]
        exact small1000 (by show us.length + 1 ≤ 1000; omega)
      · rw [upd_ne (ne_of_none z hl)]
        exact sm c u z
      · rw [upd_same, List.map_append (f := num) (l₁ := us ++ [m])]
        rfl
      · rw [List.reverse_append, ← hli, line_step tr.low hm, List.append_assoc]
        rfl
      · rw [List.length_append]
        show us.length + 1 + _ ≤ i
        omega
    · have e : m = 0 := by omega
      subst e
      refine ⟨o, _, _, _, rfl, rfl, SqL.of (sm _ _ e2), (atI_nat (j := 0) rfl), rfl, _, rfl, iteF ?_⟩
      refine ⟨_, rfl, l, _, rfl, SqL.of hL, fun p hp => ?_⟩
      refine q p _ ?_ (sm.trans (same_new hp)) ?_
      · cases z : H p with
        | none => rfl
        | some u =>
          have z2 := sm _ _ z
          rw [hp] at z2
          cases z2
      · rw [upd_same, ← List.map_reverse, List.reverse_append, ← hli]
        rfl
def spWrs (C CL : Addr) : Sp := fun vs H Q _ => ∃ (N : Addr → Prop) (o : Addr) (n : Nat) (ow pc ks : List Nat) (st : Int) (fs : List (Str × V)) (i : Nat), vs = [.ref o, num i] ∧ RowB N H o C CL n ow pc ks st fs ∧ i ≤ ow.length ∧
  ∀ (a : Addr) (H' : Hp), H a = none → H' a = some (.lst ((wrs ow pc n i).map num)) → Same H H' → Q (.ref a) H'
theorem ok_wrs (T : Txt K mg) (OC : RowC K C) (m_size : Met P w K mg base 1 C "size" (spSize C CL) []) (m_line : Met P w K mg base 3 CL "line" (spLine CL) []) (M : MAt K C "_row_writers" "Rows._row_writers" s_Rows__row_writers ["self", "make"]) : Met P w K mg base 4 C "_row_writers" (spWrs C CL) [] := by
  refine M.met OC.cl sc_Rows__row_writers (fun vs H Q E h => ?_) (fun f cdv A outer s H vs Q E hr h => ?_)
  · obtain ⟨N, o, n, ow, pc, ks, st, fs, i, rfl, _⟩ := h
    rfl
  · obtain ⟨N, o, n, ow, pc, ks, st, fs, i, rfl, r, hi, q⟩ := h
    refine ⟨_, (pss_cons (ps_set (i := 2) sc_Rows__row_writers.nd rfl (Or.inl rfl) (pe_op op_rep (pe_lst (pa_cons pe_int pa_nil)) (pe_mt0 m_size hr (by decide) (pv 0))))
      (pss_cons (ps_for PassesOwn.never rfl (pi_list (pe_slice sl_list (pe_mt m_line hr (by decide) (pe_fld (pv 0) rfl) (pa_cons (pv 1) pa_nil)) (po_some pe_int) po_none)) (pg_name (i := 3) sc_Rows__row_writers.nd rfl (Or.inl rfl))
          (pss_one (ps_asg (pv 3) (pg_sub (pv 2) (pe_ix ix_list (pe_fld (pv 0) rfl) (pv 3) (fun _ _ => rfl)) set_list))))
      (pss_one (ps_ret (pv 2))))), ?_⟩
    obtain ⟨dx, t, p, kk, Nt, e1, l1, l2, l3, l4, l5, nl, lf, lw, e2, e3, _⟩ := r.ex
    have low := lw.tr.low
    have few := lw.tr.few
    have sz := r.sz
    obtain ⟨dt, ft, et, nlt⟩ : ∃ dt ft, H t = some (.ins CL dt ft) ∧ ∀ m, m ∉ fields → ft.lookup m = none := by
      obtain ⟨dt, a, b, c, ft, e, _, _, _, nlt, _⟩ := lw.tr.ex
      exact ⟨dt, ft, e, nlt⟩
    refine ⟨(by show 1 ≤ sizeLine; decide), fun y hy => ?_⟩
    have s1 := same_new (o := .lst [.int 0]) hy
    have ey : (upd H y (.lst [.int 0])) y = some (.lst [.int 0]) := upd_same
    generalize upd H y (.lst [.int 0]) = H1 at *
    have r1 := r.same s1
    refine ⟨_, rfl, o, dx, fs, rfl, s1 _ _ e1, nl _ (by decide), N, o, n, ow, pc, ks, st, fs, rfl, r1, ?_⟩
    refine ⟨y, _, [V.int 0], rfl, rfl, ey, by omega, by omega, ?_, fun W hW => ?_⟩
    · rw [Int.toNat_natCast]
      show 1 * n ≤ sizeLine
      have := r.sz
      exact Nat.le_trans (show 1 * n ≤ 1000 by omega) (Gd.line_le (by decide))
    rw [Int.toNat_natCast]
    have e0s : (List.replicate n [V.int 0]).flatten = (wrs ow pc n 0).map num := by
      rw [wrs_zero]
      generalize n = n
      induction n with
      | zero => rfl
      | succ n ih =>
        rw [List.replicate_succ, List.replicate_succ, List.flatten_cons, ih]
        rfl
    rw [e0s]
    have hW0 : H W = none := none_of' s1 hW
    have s2 := s1.trans (same_new (o := .lst ((wrs ow pc n 0).map num)) hW)
    have eW : (upd H1 W (.lst ((wrs ow pc n 0).map num))) W = some (.lst ((wrs ow pc n 0).map num)) := upd_same
    generalize upd H1 W (.lst ((wrs ow pc n 0).map num)) = H2 at *
    refine ⟨_, rfl, o, C, dx, fs, .ref t, rfl, s2 _ _ e1, OC.cl, OC.n_tree, l2, t, dt, ft, rfl, s2 _ _ et, nlt _ (by decide), _, rfl, t, ow, _, i, rfl, lw.tr.same s2, hi, fun p2 H3 hp2 s3 ep2 => ⟨_, rfl, p2, _, rfl, SqL.of ep2, fun p3 hp3 => ?_⟩⟩
    rw [show (some (1 : Int)) = some (((1 : Nat) : Int)) from rfl, cut_from]
    have s4 := s3.trans (same_new (o := .lst (((line ow i).map num).drop 1)) hp3)
    have ep3 : (upd H3 p3 (.lst (((line ow i).map num).drop 1))) p3 = some (.lst (((line ow i).map num).drop 1)) := upd_same
    have W3 : W ≠ p3 := fun e => by rw [← e, s3 _ _ eW] at hp3; cases hp3
    generalize upd H3 p3 (.lst (((line ow i).map num).drop 1)) = H4 at *
    have s04 := s2.trans s4
    have eW4 := s4 _ _ eW
    refine ⟨p3, rfl, ⟨_, SqL.of ep3⟩, ?_⟩
    refine for_list (K := K) (a := p3) (xs := ((line ow i).map num).drop 1) (fun k σ H' => ∃ (y3 : Option V) (x : Nat), σ = [some (.ref o), some (num i), some (.ref W), y3] ∧ (line ow i)[k]? = some x ∧ H' W = some (.lst ((wrs ow pc n x).map num)) ∧ (∀ c u, c ≠ W → H4 c = some u → H' c = some u))
      ⟨none, 0, rfl, line_fst low i, eW4, fun c u _ z => z⟩ (fun k σ H' _ hP => ?_) (fun k v σ H5 hkx hP => ?_) (fun σ H5 hP => ?_)
    · obtain ⟨y3, x, rfl, _, _, k5⟩ := hP
      exact SqL.of (k5 _ _ W3.symm ep3)
    · obtain ⟨y3, x, rfl, hx, eW5, k5⟩ := hP
      rw [List.getElem?_drop, List.getElem?_map, Nat.add_comm 1 k] at hkx
      obtain ⟨y, hy, rfl⟩ := Option.map_eq_some_iff.mp hkx
      obtain ⟨y0, hpar⟩ := line_next low i k x y hx hy
      have yi := line_le low i y (List.mem_of_getElem? hy)
      have lp := r.lp
      have oW : o ≠ W := fun e => by rw [← e, e1] at hW0; cases hW0
      have pW : p ≠ W := fun e => by rw [← e, e2] at hW0; cases hW0
      have hq : pc.getD (y - 1) 0 < n := r.pl _ (by
        rw [List.getD_eq_getElem?_getD, List.getElem?_eq_getElem (by omega : y - 1 < pc.length)]
        exact List.getElem_mem _)
      have ew := wrs_step low pc n y0 (by omega : y ≤ 64)
      rw [hpar] at ew
      refine ⟨_, rfl, _, rfl, _, rfl, o, C, dx, fs, .ref p, rfl, k5 _ _ oW (s04 _ _ e1), OC.cl, OC.n_places, l3, _, rfl, p, _, _, _, rfl, rfl, SqL.of (k5 _ _ pW (s04 _ _ e2)), at_pc (by omega) (by omega), W, _, _, pc.getD (y - 1) 0, rfl, rfl, eW5, ?_, ?_⟩
      · unfold ixN
        rw [if_pos (by omega), if_pos (by rw [List.length_map, wrs_len]; omega)]
        rfl
      refine ⟨some (num y), y, rfl, hy, ?_, fun c u hc z => ?_⟩
      · rw [upd_same, ew, List.map_set]
      · rw [upd_ne hc]
        exact k5 _ _ hc z
    · obtain ⟨y3, x, rfl, hx, eW5, k5⟩ := hP
      have hl : 0 < (line ow i).length := by
        cases e : line ow i with
        | nil => rw [e] at hx; cases hx
        | cons x xs => exact Nat.succ_pos _
      obtain rfl := line_end low hx (by rw [List.length_drop, List.length_map]; omega)
      exact ⟨_, rfl, q W H5 hW0 eW5 fun c u z => k5 _ _ (ne_of_none z hW0) (s04 _ _ z)⟩
def spFree (C CL : Addr) : Sp := fun vs H Q _ => ∃ (N : Addr → Prop) (o : Addr) (n : Nat) (ow pc ks : List Nat) (st : Int) (fs : List (Str × V)) (i : Nat), vs = [.ref o, num i] ∧ RowB N H o C CL n ow pc ks st fs ∧ i ≤ ow.length ∧ ks.length ≤ 64 ∧
  ∀ (a : Addr) (H' : Hp) (xs : List V), H a = none → H' a = some (.lst xs) → PrX H' xs (freeL ow pc ks i n) → (∀ (j : Nat) (t : Addr), xs[j]? = some (.ref t) → H t = none) → Same H H' → Q (.ref a) H'
theorem ok_free (T : Txt K mg) (OC : RowC K C) (m__row_writers : Met P w K mg base 4 C "_row_writers" (spWrs C CL) []) (M : MAt K C "_needed_no_more" "Rows._needed_no_more" s_Rows__needed_no_more ["self", "make"]) : Met P w K mg base 5 C "_needed_no_more" (spFree C CL) [] := by
  refine M.met OC.cl sc_Rows__needed_no_more (fun vs H Q E h => ?_) (fun f cdv A outer s H vs Q E hr h => ?_)
  · obtain ⟨N, o, n, ow, pc, ks, st, fs, i, rfl, _⟩ := h
    rfl
  · obtain ⟨N, o, n, ow, pc, ks, st, fs, i, rfl, r, hi, h64, q⟩ := h
    refine ⟨_, (pss_cons (ps_setLc (i := 2) (own := [("other", 6)]) (g := gName 6) (tt := tYes) rfl sc_Rows__needed_no_more.nd rfl rfl (sw_true rfl rfl rfl (by decide +kernel)) (pi_list (pe_fld (pv 0) rfl)) (blkOk_by (own := [("other", 6)]) (N := ["self", "make", "kept", "writes", "place", "writer", "other", "writers"]) (sc := defScope s_Rows__needed_no_more) (by decide +kernel)) (fun _ _ _ _ _ => pg_name (i := 6) sc_Rows__needed_no_more.nd rfl (Or.inl rfl)) (fun _ _ _ _ _ => pts_nil) (fun _ _ _ _ _ => (pe_mt m__row_writers hr (by decide) (pv 0) (pa_cons (pv 6) pa_nil))))
      (pss_cons (ps_set (i := 3) sc_Rows__needed_no_more.nd rfl (Or.inl rfl) (pe_lst pa_nil))
      (pss_cons (ps_for PassesOwn.never rfl (pi_enum (by rfl) T.b_enumerate (pa_cons (pe_mt m__row_writers hr (by decide) (pv 0) (pa_cons (pv 1) pa_nil)) pa_nil)) (pg_tup (by rfl) (pgs_cons (pg_name (i := 4) sc_Rows__needed_no_more.nd rfl (Or.inr rfl)) (pgs_cons (pg_name (i := 5) sc_Rows__needed_no_more.nd rfl (Or.inr rfl)) pgs_nil)))
          (pss_one (ps_if (pt_val (pe_callB (cr_all rfl) (by rfl) T.b_all boot_all_ (pa_cons (pe_lc (own := [("writers", 7)]) (g := gName 7) (tt := tYes) rfl sc_Rows__needed_no_more.nd (pi_list (pv 2)) (blkOk_by (own := [("writers", 7)]) (N := ["self", "make", "kept", "writes", "place", "writer", "other", "writers"]) (sc := defScope s_Rows__needed_no_more) (by decide +kernel)) (fun _ _ _ _ _ => pg_name (i := 7) sc_Rows__needed_no_more.nd rfl (Or.inl rfl)) (fun _ _ _ _ _ => pts_nil) (fun _ _ _ _ _ => (pe_cmpR op_ne (pe_ix (show IxR _ (rIxL K) from ix_list) (pv 7) (pv 4) (fun _ _ => rfl)) (pv 5) (nomark _)))) pa_nil)))
              (pss_one (ps_expr (pe_bm PySem.F.plainAttrs_list PySem.F.slot_list_append PySem.F.type_list_append mt_append (pv 3) (pa_cons (pe_tup (pa_cons (pv 4) (pa_cons (pv 5) pa_nil))) pa_nil)))) pss_nil)))
      (pss_one (ps_ret (pv 3)))))), ?_⟩
    obtain ⟨dx, t, p, kk, Nt, e1, l1, l2, l3, l4, l5, nl, lf, lw, e2, e3, _⟩ := r.ex
    have few := lw.tr.few
    have sz := r.sz
    refine ⟨_, rfl, o, C, dx, fs, .ref kk, rfl, e1, OC.cl, OC.n_kept, l4, kk, rfl, ⟨_, SqL.of e3⟩, fun B hB => ?_⟩
    refine lc_it (walk_list (xs := ks.map num)) (fun k H' => Same H H' ∧ ∃ rs : List Addr, H' B = some (.lst (rs.map V.ref)) ∧ rs.length = k ∧ ∀ (j : Nat) (a : Addr), rs[j]? = some a → a ≠ B ∧ H' a = some (.lst ((wrs ow pc n (ks.getD j 0)).map num))) ⟨same_new hB, [], upd_same, rfl, fun j a e => by cases e⟩ (fun k H' _ hP => SqL.of (hP.1 _ _ e3)) (fun k v H2 H3 hk hP hY => ?_) (fun H2 hP => ?_)
    · obtain ⟨s2, rs, eB, hl, ha⟩ := hP
      obtain ⟨rfl, hki⟩ := hY
      rw [List.getElem?_map] at hki
      obtain ⟨x, hx, rfl⟩ := Option.map_eq_some_iff.mp hki
      refine ⟨rfl, yesI ?_⟩
      have r2 := r.same s2
      obtain ⟨dx2, e21, nl2⟩ := r2.ins
      refine ⟨_, rfl, o, dx2, fs, rfl, e21, nl2 _ (by decide), _, rfl, N, o, n, ow, pc, ks, st, fs, x, rfl, r2, r.kl _ (List.mem_of_getElem? hx), fun a H4 ha4 ea4 s4 => ?_⟩
      have eB4 := s4 _ _ eB
      have aB : a ≠ B := fun e => by rw [e, eB] at ha4; cases ha4
      rw [List.length_map] at hk
      refine ⟨_, eB4, ?_, fun c u z => ?_, rs ++ [a], ?_, by rw [List.length_append, hl]; rfl, fun j b e => ?_⟩
      · rw [List.length_map, hl]
        exact Nat.lt_of_lt_of_le (show k < 1000 by omega) (Gd.line_le (by decide))
      · rw [upd_ne (ne_of_none z hB)]
        exact s4 _ _ (s2 _ _ z)
      · rw [upd_same, List.map_append]
        rfl
      · by_cases hj : j < rs.length
        · rw [List.getElem?_append_left hj] at e
          obtain ⟨g1, g2⟩ := ha j b e
          exact ⟨g1, by rw [upd_ne g1]; exact s4 _ _ g2⟩
        · rw [List.getElem?_append_right (by omega)] at e
          cases z : j - rs.length with
          | zero =>
            rw [z] at e
            cases e
            obtain rfl : j = k := by omega
            refine ⟨aB, ?_⟩
            rw [upd_ne aB, show ks.getD j 0 = x by rw [List.getD_eq_getElem?_getD, hx]; rfl]
            exact ea4
          | succ n =>
            rw [z] at e
            cases e
    obtain ⟨s2, rs, eB, hl, ha⟩ := hP
    rw [List.length_map] at hl
    refine ⟨(by show 0 ≤ sizeLine; decide), fun W hW => ?_⟩
    have s3 := s2.trans (same_new (o := .lst []) hW)
    have eW : (upd H2 W (.lst [])) W = some (.lst []) := upd_same
    have WB : W ≠ B := fun e => by rw [e, eB] at hW; cases hW
    have hW0 : H W = none := none_of' s2 hW
    have eB3 := same_new (o := .lst []) hW _ _ eB
    have ha3 : ∀ (j : Nat) (a : Addr), rs[j]? = some a → a ≠ W ∧ (upd H2 W (.lst [])) a = some (.lst ((wrs ow pc n (ks.getD j 0)).map num)) := fun j a e => by
      obtain ⟨g1, g2⟩ := ha j a e
      exact ⟨fun z => (by rw [z, hW] at g2; cases g2), same_new (o := .lst []) hW _ _ g2⟩
    generalize upd H2 W (.lst []) = H3 at *
    have r3 := r.same s3
    obtain ⟨dx3, e31, nl3⟩ := r3.ins
    refine ⟨_, rfl, o, dx3, fs, rfl, e31, nl3 _ (by decide), _, rfl, N, o, n, ow, pc, ks, st, fs, i, rfl, r3, hi, fun a H4 ha4 ea4 s4 => ?_⟩
    have aW : a ≠ W := fun e => by rw [e, eW] at ha4; cases ha4
    have s04 := s3.trans s4
    refine ⟨a, _, rfl, SqL.of ea4, ?_⟩
    refine for_it (walk_enum (K := K) (a := a) (xs := (wrs ow pc n i).map num)) (fun k σ H' => ∃ (y4 y5 y6 y7 : Option V) (xs : List V), σ = [some (.ref o), some (num i), some (.ref B), some (.ref W), y4, y5, y6, y7] ∧ H' W = some (.lst xs) ∧ PrX H' xs (freeL ow pc ks i k) ∧ (∀ (j : Nat) (t : Addr), xs[j]? = some (.ref t) → H t = none ∧ t ≠ W) ∧ (∀ c u, c ≠ W → H4 c = some u → H' c = some u))
      ⟨none, none, none, none, [], rfl, s4 _ _ eW, ⟨rfl, fun j p e => (by cases e)⟩, fun j t e => (by cases e), fun c u _ z => z⟩ (fun k σ H' _ hP => ?_) (fun k x σ H5 H6 hk hP hY => ?_) (fun σ H5 hP => ?_)
    · obtain ⟨y4, y5, y6, y7, xs, rfl, _, _, _, k5⟩ := hP
      exact SqL.of (k5 _ _ aW ea4)
    · obtain ⟨y4, y5, y6, y7, xs, rfl, eW5, px, nx, k5⟩ := hP
      obtain ⟨Tp, u, v, rfl, hT, rfl, hu, hv⟩ := hY
      rw [List.length_map, wrs_len] at hk
      replace hu : some (V.int (k : Nat)) = some u := hu
      replace hv : ((wrs ow pc n i).map num)[k]? = some v := hv
      cases (Option.some.inj hu)
      have hwk : (wrs ow pc n i)[k]? = some (wrt ow pc k 64 i) := by
        unfold wrs
        rw [List.getElem?_map, List.getElem?_range hk]
        rfl
      rw [List.getElem?_map, hwk] at hv
      cases (show some (num (wrt ow pc k 64 i)) = some v from hv)
      refine ⟨Tp, _, rfl, SqT.of upd_same, rfl, _, _, rfl, _, _, rfl, rfl, ?_⟩
      have s6 := same_new (o := .tup [V.int (k : Nat), num (wrt ow pc k 64 i)]) hT
      generalize upd H5 Tp (.tup [V.int (k : Nat), num (wrt ow pc k 64 i)]) = H6 at *
      have eW6 := s6 _ _ eW5
      have eB6 := s6 _ _ (k5 _ _ WB.symm (s4 _ _ eB3))
      have ha6 : ∀ (j : Nat) (a : Addr), rs[j]? = some a → H6 a = some (.lst ((wrs ow pc n (ks.getD j 0)).map num)) := fun j a e => by
        obtain ⟨g1, g2⟩ := ha3 j a e
        exact s6 _ _ (k5 _ _ g1 (s4 _ _ g2))
      refine ⟨_, rfl, B, rfl, ⟨_, SqL.of eB6⟩, fun D hD => ?_⟩
      refine lc_it (walk_list (xs := rs.map V.ref)) (fun j H' => Same H6 H' ∧ H' D = some (.lst (((ks.take j).map fun x => decide (wrt ow pc k 64 x ≠ wrt ow pc k 64 i)).map V.bl))) ⟨same_new hD, upd_same⟩ (fun j H' _ hP => SqL.of (hP.1 _ _ eB6)) (fun j x H7 H8 hj hP hY => ?_) (fun H7 hP => ?_)
      · obtain ⟨s7, eD⟩ := hP
        obtain ⟨rfl, hjx⟩ := hY
        rw [List.getElem?_map] at hjx
        obtain ⟨a', hra, rfl⟩ := Option.map_eq_some_iff.mp hjx
        rw [List.length_map] at hj
        obtain ⟨x, hx⟩ : ∃ x, ks[j]? = some x := ⟨_, List.getElem?_eq_getElem (by omega)⟩
        have gx : ks.getD j 0 = x := by rw [List.getD_eq_getElem?_getD, hx]; rfl
        have e7 := s7 _ _ (ha6 j a' hra)
        rw [gx] at e7
        have hwx : atI ((wrs ow pc n x).map num) ((k : Nat) : Int) = some (num (wrt ow pc k 64 x)) := by
          refine atI_nat ?_
          unfold wrs
          rw [List.getElem?_map, List.getElem?_map, List.getElem?_range hk]
          rfl
        refine ⟨rfl, yesI ?_⟩
        refine ⟨_, rfl, _, rfl, a', _, _, _, rfl, rfl, SqL.of e7, hwx, _, rfl, rfl, ?_⟩
        refine ⟨_, eD, ?_, fun c u z => ?_, ?_⟩
        · rw [List.length_map, List.length_map, List.length_take]
          exact Nat.lt_of_lt_of_le (show min j ks.length < 1000 by omega) (Gd.line_le (by decide))
        · rw [upd_ne (ne_of_none z hD)]
          exact s7 _ _ z
        · rw [upd_same, List.take_add_one, hx, bl_ne, List.map_append, List.map_append]
          rfl
      · obtain ⟨s7, eD⟩ := hP
        rw [List.length_map, hl, List.take_length] at eD
        refine ⟨D, ks.map fun x => decide (wrt ow pc k 64 x ≠ wrt ow pc k 64 i), rfl, SqL.of eD, _, rfl, ?_⟩
        have ef : (ks.map fun x => decide (wrt ow pc k 64 x ≠ wrt ow pc k 64 i)).all id = freeQ ow pc ks i k := by
          unfold freeQ
          rw [List.all_map]
          rfl
        rw [ef]
        have es : freeL ow pc ks i (k + 1) = freeL ow pc ks i k ++ if freeQ ow pc ks i k = true then [(k, wrt ow pc k 64 i)] else [] := by
          unfold freeL
          rw [List.range_succ, List.filter_append, List.map_append, List.filter_cons]
          cases freeQ ow pc ks i k <;> rfl
        have s17 := s6.trans s7
        have px7 : PrX H7 xs (freeL ow pc ks i k) := ⟨px.len, fun j p e => by
          obtain ⟨t, t1, t2⟩ := px.at_ j p e
          exact ⟨t, t1, s17 _ _ t2⟩⟩
        rw [es]
        refine ite2 (fun z => ?_) (fun z => ?_)
        · rw [z, if_pos rfl]
          have eW7 := s17 _ _ eW5
          have hl7 : xs.length ≤ 64 := by
            have h1 := List.length_filter_le (freeQ ow pc ks i) (List.range k)
            rw [List.length_range] at h1
            have h2 : xs.length = ((List.range k).filter (freeQ ow pc ks i)).length := by
              rw [px.len]
              unfold freeL
              rw [List.length_map]
            omega
          refine ⟨_, rfl, .inl ⟨rfl, _, SqL.of eW7⟩, _, rfl, _, rfl, (by show 2 ≤ sizeLine; decide), fun t ht => ?_⟩
          have s8 := same_new (o := .tup [V.int (k : Nat), num (wrt ow pc k 64 i)]) ht
          have et : (upd H7 t (.tup [V.int (k : Nat), num (wrt ow pc k 64 i)])) t = some (.tup [V.int (k : Nat), num (wrt ow pc k 64 i)]) := upd_same
          have tW : t ≠ W := fun e => by rw [e, eW7] at ht; cases ht
          generalize upd H7 t (.tup [V.int (k : Nat), num (wrt ow pc k 64 i)]) = H8 at *
          have eW8 := s8 _ _ eW7
          have kW : ∀ c u, c ≠ W → H8 c = some u → (upd H8 W (.lst (xs ++ [.ref t]))) c = some u := fun c u hc w => by
            rw [upd_ne hc]
            exact w
          have ht0 : H t = none := by
            cases w : H t with
            | none => rfl
            | some u =>
              rw [s17 _ _ (k5 _ _ tW (s04 _ _ w))] at ht
              cases ht
          refine ⟨W, xs, _, rfl, rfl, eW8, small1000 (by omega), ?_⟩
          refine ⟨_, _, _, _, xs ++ [.ref t], rfl, upd_same, px7.snoc (p := (k, wrt ow pc k 64 i)) (fun c ys w => kW _ _ (fun e => by rw [e, eW7] at w; cases w) (s8 _ _ w)) (kW _ _ tW et), snoc_ref nx ⟨ht0, tW⟩, fun c u hc w => kW _ _ hc (s8 _ _ (s17 _ _ (k5 _ _ hc w)))⟩
        · rw [if_neg z, List.append_nil]
          exact ⟨_, _, _, _, xs, rfl, s17 _ _ eW5, px7, nx, fun c u hc w => s17 _ _ (k5 _ _ hc w)⟩
    · obtain ⟨y4, y5, y6, y7, xs, rfl, eW5, px, nx, k5⟩ := hP
      rw [List.length_map, wrs_len] at px
      exact ⟨_, rfl, q W H5 xs hW0 eW5 px (fun j t e => (nx j t e).1) fun c u z => k5 _ _ (ne_of_none z hW0) (s04 _ _ z)⟩
end
end K41
set_option maxHeartbeats 1000000
namespace K41
open PySem PySem.Spec PyProof.Rows L2 Gd
open C8 (clsBody Met pe_mt pe_mt0)
theorem upd_none' {H H' : Hp} {o l : Addr} (k : ∀ c u, c ≠ o → H c = some u → H' c = some u) (h : l ≠ o) (e : H' l = none) : H l = none := by
  cases z : H l with
  | none => rfl
  | some u => rw [k l u h z] at e; cases e
section
variable {P : Program} {w : World} {K : PySem.W.Frag} {mg : Str → Option Value} {base : Heap} {C CL : Addr}
def spRInit (S : Sp) (C CL : Addr) : Sp := fun vs H Q E => ∃ (o dx a : Addr) (ws : List Int), vs = [.ref o, .ref a] ∧ H o = some (.ins C dx []) ∧ (H a = some (.lst (ws.map V.int)) ∨ H a = some (.tup (ws.map V.int))) ∧ 1 ≤ ws.length ∧ ws.length ≤ 16 ∧ (∀ x, x ∈ ws → -big30 ≤ x ∧ x ≤ big30) ∧
  ∀ (l : Addr) (H' : Hp) (N' : Addr → Prop) (fs : List (Str × V)), RowB N' H' o C CL ws.length [] [] [0] 0 fs → fs.length ≤ 5 → (∀ f, f ∉ bfields → fs.lookup f = none) → H' l = some (.lst (ws.map V.int)) → H l = none → l ≠ o → ¬ N' l → (∀ c u, c ≠ o → H c = some u → H' c = some u) → (∀ c, N' c → (c = o ∨ H c = none) ∧ H' c ≠ none) → ∀ (Q2 : VK) (E2 : XK), (∀ v H2, Q .non H2 → Q2 v H2) → S [.ref o, .ref l] H' Q2 E2
theorem fn_rinit {S : Sp} {f fL : Addr} {fd fdL : FuncData} (T : Txt K mg) (OC : RowC K C) (cL : mg "LeapTree" = some (.ref CL)) (M_LeapTree : Mk K CL fL) (B_LeapTree : Binds K fdL ["self"] []) (G_LeapTree : FnOk P w K mg base CX0 2 fL fdL ["self"] (spInitL CL)) (c_is_worths : C8.Cal P w K mg base 3 "is_worths" spWorths []) (m_begin : Met P w K mg base 3 C "begin" S [])
    (F : Fun K "__init__" "Rows.__init__" s_Rows___init__ f fd) : FnOk P w K mg base CX0 4 f fd ["self", "worths"] (spRInit S C CL) := by
  refine F.ok sc_Rows___init__ (fun vs H Q E h => ?_) (fun cdv A outer s H vs Q E hr h => ?_)
  · obtain ⟨o, dx, a, ws, rfl, _⟩ := h
    rfl
  · obtain ⟨o, dx, a, ws, rfl, e1, hor, h1, h2, hw, q⟩ := h
    refine ⟨_, (pss_cons (ps_if (pt_not (pt_val (C8.pe_c c_is_worths hr (by decide) (by rfl) (pa_cons (pv 1) pa_nil))))
          (pss_one ps_never) pss_nil)
      (pss_cons (ps_fld (pv 0) (pe_callB call_len (by rfl) T.b_len boot_len_ (pa_cons (pv 1) pa_nil)) rfl)
      (pss_cons (ps_fld (pv 0) (pe_make0 M_LeapTree G_LeapTree (hr.mono (by decide)) rfl cL B_LeapTree .nil pass0) rfl)
      (pss_cons (ps_fld (pv 0) (pe_lst (pa_cons pe_non pa_nil)) rfl)
      (pss_cons (ps_fld (pv 0) (pe_lst (pa_cons pe_int pa_nil)) rfl)
      (pss_cons (ps_fld (pv 0) pe_int rfl)
      (pss_one (ps_expr (pe_mt m_begin hr (by decide) (pv 0) (pa_cons (pe_callTy call_list_of (by rfl) T.t_list boot_list_ (pa_cons (pv 1) pa_nil)) pa_nil)))))))))), ?_⟩
    have ao : a ≠ o := fun e => by
      rw [e, e1] at hor
      rcases hor with z | z <;> cases z
    refine ⟨_, rfl, a, ws, rfl, hor, h1, h2, hw, fun H1 s1 => ⟨_, rfl, iteF ?_⟩⟩
    have hlen : ∀ {H' : Hp}, (∀ c u, c ≠ o → H c = some u → H' c = some u) → LenV K (.ref a) H' ws.length := fun {H'} k => by
      rcases hor with e | e
      · exact .inl ⟨_, SqL.of (k _ _ ao e), (List.length_map _).symm⟩
      · exact .inr ⟨_, SqT.of (k _ _ ao e), (List.length_map _).symm⟩
    refine ⟨_, rfl, .ref a, _, rfl, hlen fun c u _ z => s1 c u z, ?_⟩
    refine ⟨_, rfl, o, C, dx, [], rfl, s1 _ _ e1, OC.cl, OC.n_size, by decide, ?_⟩
    have p1 : (putF "_row_size" (num ws.length) ([] : List (Str × V))).length ≤ 1 := length_putF _ _ _
    have k2 : ∀ c u, c ≠ o → H c = some u → (upd H1 o (.ins C dx (putF "_row_size" (num ws.length) []))) c = some u := fun c u hc z => by
      rw [upd_ne hc]
      exact s1 _ _ z
    have e2 : (upd H1 o (.ins C dx (putF "_row_size" (num ws.length) []))) o = some (.ins C dx (putF "_row_size" (num ws.length) [])) := upd_same
    have n12 : ∀ c, (upd H1 o (.ins C dx (putF "_row_size" (num ws.length) []))) c = none → H c = none := fun c z => none_of' s1 (upd_none z)
    change tSeq _ _ _ _ (upd H1 o (.ins C dx (putF "_row_size" (num ws.length) [])))
    generalize upd H1 o (.ins C dx (putF "_row_size" (num ws.length) [])) = H2 at *
    intro t du n1 n2 ne
    refine ⟨t, du, rfl, upd_same, fun H3 Nt tw k3 f3 => ⟨rfl, ?_⟩⟩
    have ot : o ≠ t := ne_of_none e2 n1
    have s3 : Same H2 H3 := fun c u z => k3 c u (ne_of_none z n1) (by rw [upd_ne (ne_of_none z n1), upd_ne (ne_of_none z n2)]; exact z)
    have g3 : ∀ c, Nt c → H2 c = none := fun c hc => upd_none (upd_none (f3 c hc))
    have nt : ¬ Nt t := fun h => by
      have z := f3 t h
      rw [upd_same] at z
      cases z
    refine ⟨_, rfl, o, C, dx, _, rfl, s3 _ _ e2, OC.cl, OC.n_tree, Nat.lt_of_le_of_lt p1 (by decide), ?_⟩
    have p2 : (putF "_row_tree" (.ref t) (putF "_row_size" (num ws.length) ([] : List (Str × V)))).length ≤ 2 := Nat.le_trans (length_putF _ _ _) (Nat.succ_le_succ p1)
    have k4 : ∀ c u, c ≠ o → H3 c = some u → (upd H3 o (.ins C dx (putF "_row_tree" (.ref t) (putF "_row_size" (num ws.length) [])))) c = some u := fun c u hc z => by
      rw [upd_ne hc]
      exact z
    have e4 : (upd H3 o (.ins C dx (putF "_row_tree" (.ref t) (putF "_row_size" (num ws.length) [])))) o = some (.ins C dx (putF "_row_tree" (.ref t) (putF "_row_size" (num ws.length) []))) := upd_same
    generalize upd H3 o (.ins C dx (putF "_row_tree" (.ref t) (putF "_row_size" (num ws.length) []))) = H4 at *
    refine ⟨(by show 1 ≤ sizeLine; decide), fun p hp => ?_⟩
    have op : o ≠ p := ne_of_none e4 hp
    have s5 := same_new (o := .lst [.non]) hp
    have ep : (upd H4 p (.lst [.non])) p = some (.lst [.non]) := upd_same
    have np3 : H3 p = none := by
      cases z : H3 p with
      | none => rfl
      | some u => rw [k4 _ _ op.symm z] at hp; cases hp
    generalize upd H4 p (.lst [.non]) = H5 at *
    refine ⟨_, rfl, o, C, dx, _, rfl, s5 _ _ e4, OC.cl, OC.n_places, Nat.lt_of_le_of_lt p2 (by decide), ?_⟩
    have p3 : (putF "_row_places" (.ref p) (putF "_row_tree" (.ref t) (putF "_row_size" (num ws.length) ([] : List (Str × V))))).length ≤ 3 := Nat.le_trans (length_putF _ _ _) (Nat.succ_le_succ p2)
    have k6 : ∀ c u, c ≠ o → H5 c = some u → (upd H5 o (.ins C dx (putF "_row_places" (.ref p) (putF "_row_tree" (.ref t) (putF "_row_size" (num ws.length) []))))) c = some u := fun c u hc z => by
      rw [upd_ne hc]
      exact z
    have e6 : (upd H5 o (.ins C dx (putF "_row_places" (.ref p) (putF "_row_tree" (.ref t) (putF "_row_size" (num ws.length) []))))) o = some (.ins C dx (putF "_row_places" (.ref p) (putF "_row_tree" (.ref t) (putF "_row_size" (num ws.length) [])))) := upd_same
    generalize upd H5 o (.ins C dx (putF "_row_places" (.ref p) (putF "_row_tree" (.ref t) (putF "_row_size" (num ws.length) [])))) = H6 at *
    refine ⟨(by show 1 ≤ sizeLine; decide), fun k hk => ?_⟩
    have ok : o ≠ k := ne_of_none e6 hk
    have pk : p ≠ k := ne_of_none (k6 _ _ op.symm ep) hk
    have s7 := same_new (o := .lst [V.int 0]) hk
    have ek : (upd H6 k (.lst [V.int 0])) k = some (.lst [V.int 0]) := upd_same
    have nk3 : H3 k = none := by
      cases z : H3 k with
      | none => rfl
      | some u => rw [k6 _ _ ok.symm (s5 _ _ (k4 _ _ ok.symm z))] at hk; cases hk
    generalize upd H6 k (.lst [V.int 0]) = H7 at *
    have ek : H7 k = some (.lst ([0].map num)) := ek
    refine ⟨_, rfl, o, C, dx, _, rfl, s7 _ _ e6, OC.cl, OC.n_kept, Nat.lt_of_le_of_lt p3 (by decide), ?_⟩
    have p4 : (putF "_row_kept" (.ref k) (putF "_row_places" (.ref p) (putF "_row_tree" (.ref t) (putF "_row_size" (num ws.length) ([] : List (Str × V)))))).length ≤ 4 := Nat.le_trans (length_putF _ _ _) (Nat.succ_le_succ p3)
    have k8 : ∀ c u, c ≠ o → H7 c = some u → (upd H7 o (.ins C dx (putF "_row_kept" (.ref k) (putF "_row_places" (.ref p) (putF "_row_tree" (.ref t) (putF "_row_size" (num ws.length) [])))))) c = some u := fun c u hc z => by
      rw [upd_ne hc]
      exact z
    have e8 : (upd H7 o (.ins C dx (putF "_row_kept" (.ref k) (putF "_row_places" (.ref p) (putF "_row_tree" (.ref t) (putF "_row_size" (num ws.length) [])))))) o = some (.ins C dx (putF "_row_kept" (.ref k) (putF "_row_places" (.ref p) (putF "_row_tree" (.ref t) (putF "_row_size" (num ws.length) []))))) := upd_same
    generalize upd H7 o (.ins C dx (putF "_row_kept" (.ref k) (putF "_row_places" (.ref p) (putF "_row_tree" (.ref t) (putF "_row_size" (num ws.length) []))))) = H8 at *
    refine ⟨_, rfl, o, C, dx, _, rfl, e8, OC.cl, OC.n_steps, Nat.lt_of_le_of_lt p4 (by decide), ?_⟩
    have p5 : (putF "_row_steps" (.int 0) (putF "_row_kept" (.ref k) (putF "_row_places" (.ref p) (putF "_row_tree" (.ref t) (putF "_row_size" (num ws.length) ([] : List (Str × V))))))).length ≤ 5 := Nat.le_trans (length_putF _ _ _) (Nat.succ_le_succ p4)
    have k9 : ∀ c u, c ≠ o → H8 c = some u → (upd H8 o (.ins C dx (putF "_row_steps" (.int 0) (putF "_row_kept" (.ref k) (putF "_row_places" (.ref p) (putF "_row_tree" (.ref t) (putF "_row_size" (num ws.length) []))))))) c = some u := fun c u hc z => by
      rw [upd_ne hc]
      exact z
    have e9 : (upd H8 o (.ins C dx (putF "_row_steps" (.int 0) (putF "_row_kept" (.ref k) (putF "_row_places" (.ref p) (putF "_row_tree" (.ref t) (putF "_row_size" (num ws.length) []))))))) o = some (.ins C dx (putF "_row_steps" (.int 0) (putF "_row_kept" (.ref k) (putF "_row_places" (.ref p) (putF "_row_tree" (.ref t) (putF "_row_size" (num ws.length) [])))))) := upd_same
    generalize upd H8 o (.ins C dx (putF "_row_steps" (.int 0) (putF "_row_kept" (.ref k) (putF "_row_places" (.ref p) (putF "_row_tree" (.ref t) (putF "_row_size" (num ws.length) [])))))) = H9 at *
    generalize hfs : putF "_row_steps" (.int 0) (putF "_row_kept" (.ref k) (putF "_row_places" (.ref p) (putF "_row_tree" (.ref t) (putF "_row_size" (num ws.length) ([] : List (Str × V)))))) = fs at *
    have k19 : ∀ c u, c ≠ o → H3 c = some u → H9 c = some u := fun c u hc z => k9 _ _ hc (k8 _ _ hc (s7 _ _ (k6 _ _ hc (s5 _ _ (k4 _ _ hc z)))))
    have k09 : ∀ c u, c ≠ o → H c = some u → H9 c = some u := fun c u hc z => k19 _ _ hc (s3 _ _ (k2 _ _ hc z))
    have nb : fs.lookup ("begin" : Str) = none := by
      rw [← hfs, lookup_putF, if_neg (by decide), lookup_putF, if_neg (by decide), lookup_putF, if_neg (by decide), lookup_putF, if_neg (by decide), lookup_putF, if_neg (by decide)]
      rfl
    have hor9 : SqL K H9 a (ws.map V.int) ∨ SqT K H9 a (ws.map V.int) := hor.imp (fun z => SqL.of (k09 _ _ ao z)) fun z => SqT.of (k09 _ _ ao z)
    refine ⟨_, rfl, o, dx, fs, rfl, e9, nb, _, rfl, a, _, rfl, hor9, fun l hl => ?_⟩
    have s10 := same_new (o := .lst (ws.map V.int)) hl
    have el : (upd H9 l (.lst (ws.map V.int))) l = some (.lst (ws.map V.int)) := upd_same
    generalize upd H9 l (.lst (ws.map V.int)) = H10 at *
    have nto : ∀ c, Nt c → c ≠ o := fun c h e => by
      have z := g3 c h
      rw [e, e2] at z
      cases z
    have ol : l ≠ o := (ne_of_none e9 hl).symm
    have rows : RowB (fun c => c = o ∨ c = t ∨ c = p ∨ c = k ∨ (Nt c ∧ H3 c ≠ none)) H9 o C CL ws.length [] [] [0] 0 fs := by
      refine ⟨⟨dx, t, p, k, _, e9, by rw [← hfs]; rw [lookup_putF, if_neg (by decide), lookup_putF, if_neg (by decide), lookup_putF, if_neg (by decide), lookup_putF, if_neg (by decide), lookup_putF, if_pos rfl], by rw [← hfs]; rw [lookup_putF, if_neg (by decide), lookup_putF, if_neg (by decide), lookup_putF, if_neg (by decide), lookup_putF, if_pos rfl], by rw [← hfs]; rw [lookup_putF, if_neg (by decide), lookup_putF, if_neg (by decide), lookup_putF, if_pos rfl], by rw [← hfs]; rw [lookup_putF, if_neg (by decide), lookup_putF, if_pos rfl], by rw [← hfs]; rw [lookup_putF, if_pos rfl], fun g hg => ?_, Nat.lt_of_le_of_lt p5 (by decide), tw.cut.kp fun c u h z => k19 c u (h.elim (fun h => nto c h.1) fun e => e ▸ ot.symm) z, k9 _ _ op.symm (k8 _ _ op.symm (s7 _ _ (k6 _ _ op.symm ep))), k9 _ _ ok.symm (k8 _ _ ok.symm ek), .inl rfl, .inr (.inl rfl), .inr (.inr (.inl rfl)), .inr (.inr (.inr (.inl rfl))), fun c h => .inr (.inr (.inr (.inr h))), fun h => nto o h.1 rfl, fun h => nt h.1, fun h => h.2 np3, fun h => h.2 nk3, pk, ot⟩, rfl, ⟨h1, h2⟩, fun q hq => (by cases hq), fun i hi => (by rw [List.mem_singleton.mp hi]; exact Nat.le_refl 0), List.pairwise_singleton _ _⟩
      rw [← hfs]
      rw [lookup_putF, if_neg (fun z => hg (by rw [z]; decide)), lookup_putF, if_neg (fun z => hg (by rw [z]; decide)), lookup_putF, if_neg (fun z => hg (by rw [z]; decide)), lookup_putF, if_neg (fun z => hg (by rw [z]; decide)), lookup_putF, if_neg (fun z => hg (by rw [z]; decide))]
      rfl
    have rows := (rows.cut).same s10
    refine q l H10 _ fs rows p5 (fun g hg => ?_) el (upd_none' k09 ol hl) ol (fun h => h.2 hl) (fun c u hc z => s10 _ _ (k09 _ _ hc z)) (fun c h => ⟨?_, ?_⟩) _ _ fun v H2 z => z
    · rw [← hfs]
      rw [lookup_putF, if_neg (fun z => hg (by rw [z]; decide)), lookup_putF, if_neg (fun z => hg (by rw [z]; decide)), lookup_putF, if_neg (fun z => hg (by rw [z]; decide)), lookup_putF, if_neg (fun z => hg (by rw [z]; decide)), lookup_putF, if_neg (fun z => hg (by rw [z]; decide))]
      rfl
    · rcases h.1 with rfl | rfl | rfl | rfl | h
      · exact .inl rfl
      · exact .inr (n12 _ n1)
      · exact .inr (n12 _ (none_of' s3 np3))
      · exact .inr (n12 _ (none_of' s3 nk3))
      · exact .inr (n12 _ (g3 c h.1))
    · obtain ⟨u, hu⟩ := Option.ne_none_iff_exists'.mp h.2
      rw [s10 _ _ hu]
      simp
end
end K41
set_option maxHeartbeats 1000000
namespace K41
open PySem PySem.Spec PyProof.Rows L2 Gd
open C8 (clsBody Met pe_mt pe_mt0)
/-! ### halving -/
def hv (xs : List Nat) (x : Nat) : Nat → Nat → Nat → Nat × Nat
  | 0, b, _ => (b, 0)
  | f + 1, b, e => if e - b ≤ 1 then (b, 0) else if xs.getD ((b + e) / 2) 0 ≤ x then ((hv xs x f ((b + e) / 2) e).1, (hv xs x f ((b + e) / 2) e).2 + 1) else ((hv xs x f b ((b + e) / 2)).1, (hv xs x f b ((b + e) / 2)).2 + 1)
theorem hv_ok {xs : List Nat} {x : Nat} : ∀ f b e : Nat, e - b ≤ f → b < e → e ≤ xs.length → xs.getD b 0 ≤ x → (e = xs.length ∨ x < xs.getD e 0) → (hv xs x f b e).1 < xs.length ∧ xs.getD (hv xs x f b e).1 0 ≤ x ∧ ((hv xs x f b e).1 + 1 = xs.length ∨ x < xs.getD ((hv xs x f b e).1 + 1) 0)
  | 0, b, e, h, h1, h2, h3, h4 => absurd h (by omega)
  | f + 1, b, e, h, h1, h2, h3, h4 => by
    unfold hv
    by_cases z : e - b ≤ 1
    · rw [if_pos z]
      obtain rfl : e = b + 1 := by omega
      exact ⟨by show b < xs.length; omega, h3, h4⟩
    · rw [if_neg z]
      by_cases y : xs.getD ((b + e) / 2) 0 ≤ x
      · rw [if_pos y]
        exact hv_ok f _ e (by omega) (by omega) h2 y h4
      · rw [if_neg y]
        exact hv_ok f b _ (by omega) (by omega) (by omega) h3 (.inr (by omega))
/-- how many are looked at -/
def hvN (xs : List Nat) (x : Nat) : Nat := (hv xs x xs.length 0 xs.length).2 + 1
def hvB (xs : List Nat) (x : Nat) : Nat := (hv xs x xs.length 0 xs.length).1
theorem hvB_ok {xs : List Nat} {x : Nat} (h0 : 0 < xs.length) (h : xs.getD 0 0 ≤ x) : hvB xs x < xs.length ∧ xs.getD (hvB xs x) 0 ≤ x ∧ (hvB xs x + 1 = xs.length ∨ x < xs.getD (hvB xs x + 1) 0) := hv_ok _ _ _ (by omega) h0 (Nat.le_refl _) h (.inl rfl)
theorem hv_le (xs : List Nat) (x : Nat) : ∀ f b e : Nat, (hv xs x f b e).2 ≤ f
  | 0, b, e => Nat.le_refl 0
  | f + 1, b, e => by
    unfold hv
    have h1 := hv_le xs x f ((b + e) / 2) e
    have h2 := hv_le xs x f b ((b + e) / 2)
    split
    · exact Nat.zero_le _
    · split
      · show _ + 1 ≤ _
        omega
      · show _ + 1 ≤ _
        omega
theorem at_nums {xs : List Nat} {i : Nat} (h : i < xs.length) : atI (xs.map num) ((i : Nat) : Int) = some (num (xs.getD i 0)) := by
  refine atI_nat ?_
  rw [List.getElem?_map, List.getElem?_eq_getElem h, List.getD_eq_getElem?_getD, List.getElem?_eq_getElem h]
  rfl
section
variable {P : Program} {w : World} {K : PySem.W.Frag} {mg : Str → Option Value} {base : Heap} {C CL : Addr}
def spHalf : Sp := fun vs H Q _ => ∃ (a : Addr) (xs : List Nat) (x : Nat), vs = [.ref a, num x] ∧ H a = some (.lst (xs.map num)) ∧ 1 ≤ xs.length ∧ xs.length ≤ 100 ∧ ∀ (t : Addr) (H' : Hp), H t = none → H' t = some (.tup [num (hvB xs x), num (hvN xs x)]) → Same H H' → Q (.ref t) H'
theorem ok_half (T : Txt K mg) (D : DefAt K mg "found_by_halving" s_found_by_halving ["stands", "stand"]) : C8.Cal P w K mg base 1 "found_by_halving" spHalf [] := by
  obtain ⟨f, fd, F, m, b⟩ := D.ex
  refine ⟨f, fd, _, [], F.ok sc_found_by_halving (fun vs H Q E h => ?_) (fun cdv A outer s H vs Q E hr h => ?_), m, F.kp, b, .nil⟩
  · obtain ⟨a, xs, x, rfl, _⟩ := h
    rfl
  · obtain ⟨a, xs, x, rfl, ea, h1, h2, q⟩ := h
    refine ⟨_, (pss_cons (ps_set (i := 2) sc_found_by_halving.nd rfl (Or.inl rfl) pe_int)
      (pss_cons (ps_set (i := 3) sc_found_by_halving.nd rfl (Or.inl rfl) (pe_callB call_len (by rfl) T.b_len boot_len_ (pa_cons (pv 0) pa_nil)))
      (pss_cons (ps_set (i := 4) sc_found_by_halving.nd rfl (Or.inl rfl) pe_int)
      (pss_cons (ps_while PassesOwn.never (pt_cmpR op_gt (pe_op op_sub (pv 3) (pv 2)) pe_int (nomark _))
          (pss_cons (ps_set (i := 5) sc_found_by_halving.nd rfl (Or.inl rfl) (pe_op op_fdiv (pe_op op_add (pv 2) (pv 3)) pe_int))
          (pss_cons (ps_aug (i := 4) sc_found_by_halving.nd rfl (Or.inl rfl) pe_int ip_add)
          (pss_one (ps_if (pt_cmpR op_le (pe_ix ix_list (pv 0) (pv 5) (fun _ _ => rfl)) (pv 1) (nomark _))
              (pss_one (ps_set (i := 2) sc_found_by_halving.nd rfl (Or.inl rfl) (pv 5))) 
              (pss_one (ps_set (i := 3) sc_found_by_halving.nd rfl (Or.inl rfl) (pv 5))))))))
      (pss_one (ps_ret (pe_tup (pa_cons (pv 2) (pa_cons (pv 4) pa_nil))))))))), ?_⟩
    refine ⟨_, rfl, .ref a, _, rfl, .inl ⟨_, SqL.of ea, rfl⟩, ?_⟩
    rw [show (xs.map num).length = xs.length from List.length_map ..]
    refine ⟨fun k σ H' => ∃ (f b s : Nat) (y : Option V), σ = [some (.ref a), some (num x), some (num b), some (num (b + k)), some (num s), y] ∧ H' = H ∧ 0 < k ∧ k ≤ f ∧ b + k ≤ xs.length ∧ s + (hv xs x f b (b + k)).2 = hvN xs x ∧ (hv xs x f b (b + k)).1 = hvB xs x, ⟨xs.length, xs.length, 0, 1, none, ?_, rfl, by omega, Nat.le_refl _, by omega, ?_, ?_⟩, ?_⟩
    · rw [Nat.zero_add]
      rfl
    · rw [Nat.zero_add, Nat.add_comm]
      rfl
    · rw [Nat.zero_add]
      rfl
    · rintro k σ H3 ⟨f0, b, s, y, rfl, rfl, hk, hf, hb, hs, hr⟩
      refine ⟨_, rfl, _, rfl, _, _, rfl, rfl, _, _, rfl, rfl, _, rfl, ?_⟩
      obtain ⟨f0, rfl⟩ : ∃ g, f0 = g + 1 := ⟨f0 - 1, by omega⟩
      rw [hv] at hs hr
      by_cases hk1 : k = 1
      · subst hk1
        rw [if_pos (by omega)] at hs hr
        rw [decide_eq_false (by omega)]
        replace hr : b = hvB xs x := hr
        obtain rfl : s = hvN xs x := by
          have : s + 0 = hvN xs x := hs
          omega
        subst hr
        refine iteF ⟨_, rfl, _, rfl, (by show 2 ≤ sizeLine; decide), fun t ht => ?_⟩
        exact q t _ ht upd_same (same_new ht)
      · rw [decide_eq_true (by omega)]
        rw [if_neg (by omega)] at hs hr
        refine iteT ?_
        have hmid : ((((b : Nat) : Int) + ((b + k : Nat) : Int)) / 2) = (((b + (b + k)) / 2 : Nat) : Int) := by omega
        generalize hm : (b + (b + k)) / 2 = mid at *
        have m1 : b < mid := by omega
        have m2 : mid < b + k := by omega
        refine ⟨_, fun σ' H'' z => z, ?_⟩
        refine ⟨_, rfl, _, rfl, _, _, rfl, rfl, _, _, rfl, rfl, ⟨by decide, by decide⟩, ?_⟩
        dsimp only
        rw [hmid]
        refine ⟨_, rfl, _, _, rfl, rfl, ?_⟩
        refine ⟨_, rfl, _, rfl, a, _, _, num (xs.getD mid 0), rfl, rfl, SqL.of ea, at_nums (by omega), _, rfl, _, _, rfl, rfl, _, rfl, ?_⟩
        by_cases y0 : xs.getD mid 0 ≤ x
        · rw [if_pos y0] at hs hr
          rw [decide_eq_true (by omega)]
          refine iteT ⟨_, rfl, b + k - mid, by omega, f0, mid, s + 1, some (num mid), ?_, rfl, by omega, by omega, by omega, ?_, ?_⟩
          · rw [show mid + (b + k - mid) = b + k by omega]
            rfl
          · rw [show mid + (b + k - mid) = b + k by omega]
            replace hs : s + ((hv xs x f0 mid (b + k)).2 + 1) = hvN xs x := hs
            omega
          · rw [show mid + (b + k - mid) = b + k by omega]
            exact hr
        · rw [if_neg y0] at hs hr
          rw [decide_eq_false (by omega)]
          refine iteF ⟨_, rfl, mid - b, by omega, f0, b, s + 1, some (num mid), ?_, rfl, by omega, by omega, by omega, ?_, ?_⟩
          · rw [show b + (mid - b) = mid by omega]
            rfl
          · rw [show b + (mid - b) = mid by omega]
            replace hs : s + ((hv xs x f0 b mid).2 + 1) = hvN xs x := hs
            omega
          · rw [show b + (mid - b) = mid by omega]
            exact hr
end
end K41
set_option maxHeartbeats 1000000
namespace K41
open PySem PySem.Spec PyProof.Rows L2 Gd
open C8 (clsBody Met pe_mt pe_mt0)
/-! ### boxes -/
def Lin (ow : List Nat) : Prop := ow = List.range ow.length
theorem Lin.par {ow : List Nat} (l : Lin ow) {i : Nat} (h0 : 0 < i) (h : i ≤ ow.length) : par ow i = i - 1 := by
  unfold K41.par
  have e : ow.getD (i - 1) 0 = (List.range ow.length).getD (i - 1) 0 := congrArg (fun z => z.getD (i - 1) 0) l
  rw [e, List.getD_eq_getElem?_getD, List.getElem?_range (by omega)]
  rfl
theorem Lin.more {ow : List Nat} (l : Lin ow) : Lin (ow ++ [ow.length]) := by
  unfold Lin
  rw [List.length_append, show ow.length + [ow.length].length = ow.length + 1 from rfl, List.range_succ, ← l]
theorem wrt_ge {ow : List Nat} (l : Lin ow) (pc : List Nat) (q : Nat) {e : Nat} (he : e ≠ 0 → pc.getD (e - 1) 0 = q) : ∀ f k : Nat, k ≤ f → k ≤ ow.length → e ≤ k → e ≤ wrt ow pc q f k
  | 0, k, h1, h2, h3 => by
    obtain rfl : k = 0 := by omega
    exact h3
  | f + 1, k, h1, h2, h3 => by
    unfold wrt
    by_cases k0 : k = 0
    · rw [if_pos k0]; exact h3
    · rw [if_neg k0]
      by_cases hq : pc.getD (k - 1) 0 = q
      · rw [if_pos hq]; exact h3
      · rw [if_neg hq, l.par (by omega) h2]
        refine wrt_ge l pc q he f _ (by omega) (by omega) ?_
        by_cases z : e = k
        · subst z
          exact absurd (he k0) hq
        · omega
/-- the turns in the box of a place -/
structure Bx (ws : List Int) (ow pc : List Nat) (vl : List Int) (ks : List Nat) (q : Nat) (r : List (Nat × Int)) : Prop where
  up : (r.map Prod.fst).Pairwise (· < ·)
  at_ : ∀ e, e ∈ r → e.1 ≤ ow.length ∧ (e.1 ≠ 0 → pc.getD (e.1 - 1) 0 = q) ∧ e.2 = (if e.1 = 0 then ws.getD q 0 else vl.getD (e.1 - 1) 0)
  all : ∀ k, k ∈ ks → wrt ow pc q 64 k ∈ r.map Prod.fst
  only : ∀ e, e ∈ r → ∃ k, k ∈ ks ∧ wrt ow pc q 64 k = e.1
theorem up_lt {xs : List Nat} (h : xs.Pairwise (· < ·)) {i j : Nat} (hij : i < j) (hj : j < xs.length) : xs.getD i 0 < xs.getD j 0 := by
  rw [List.getD_eq_getElem?_getD, List.getD_eq_getElem?_getD, List.getElem?_eq_getElem (by omega : i < xs.length), List.getElem?_eq_getElem hj]
  exact List.pairwise_iff_getElem.mp h i j (by omega) hj hij
theorem up_len : ∀ {xs : List Nat} {n : Nat}, xs.Pairwise (· < ·) → (∀ x, x ∈ xs → x ≤ n) → xs.length ≤ n + 1 := by
  intro xs n h hl
  have g : ∀ i, i < xs.length → i ≤ xs.getD i 0 := fun i => by
    induction i with
    | zero => intro _; exact Nat.zero_le _
    | succ i ih =>
      intro hi
      have h1 := ih (by omega)
      have h2 := up_lt h (i := i) (j := i + 1) (by omega) hi
      omega
  by_cases z : xs.length = 0
  · omega
  · have h1 := g (xs.length - 1) (by omega)
    have h2 := hl (xs.getD (xs.length - 1) 0) (by
      rw [List.getD_eq_getElem?_getD, List.getElem?_eq_getElem (by omega : xs.length - 1 < xs.length)]
      exact List.getElem_mem _)
    omega
theorem Bx.len {ws : List Int} {ow pc : List Nat} {vl : List Int} {ks : List Nat} {q : Nat} {r : List (Nat × Int)} (b : Bx ws ow pc vl ks q r) : r.length ≤ ow.length + 1 := by
  have h := b.up
  have hl : ∀ x, x ∈ r.map Prod.fst → x ≤ ow.length := fun x hx => by
    obtain ⟨e, he, rfl⟩ := List.mem_map.mp hx
    exact (b.at_ e he).1
  have := up_len h hl
  rw [List.length_map] at this
  exact this
/-- what halving finds -/
theorem Bx.found {ws : List Int} {ow pc : List Nat} {vl : List Int} {ks : List Nat} {q : Nat} {r : List (Nat × Int)} (b : Bx ws ow pc vl ks q r) (lin : Lin ow) (few : ow.length ≤ 63) (low : Low ow) {k : Nat} (hk : k ∈ ks) (hk2 : k ≤ ow.length) :
    1 ≤ r.length ∧ ∃ e, r[hvB (r.map Prod.fst) k]? = some e ∧ e.1 = wrt ow pc q 64 k ∧ e.2 = val ws ow pc vl q k := by
  have hm := b.all k hk
  obtain ⟨t, ht⟩ := List.getElem?_of_mem hm
  have ht1 := (List.getElem?_eq_some_iff.mp ht).1
  have hl : (r.map Prod.fst).length = r.length := List.length_map ..
  have hw := (wrt_fit low pc q 64 k (by omega)).1
  have e0 : (r.map Prod.fst).getD t 0 = wrt ow pc q 64 k := by rw [List.getD_eq_getElem?_getD, ht]; rfl
  have h00 : (r.map Prod.fst).getD 0 0 ≤ k := by
    by_cases z : t = 0
    · subst z
      omega
    · have := up_lt b.up (i := 0) (j := t) (by omega) ht1
      omega
  obtain ⟨g1, g2, g3⟩ := hvB_ok (xs := r.map Prod.fst) (x := k) (by omega) h00
  generalize hvB (r.map Prod.fst) k = i at *
  have hi : i < r.length := by omega
  have ee : (r.map Prod.fst).getD i 0 = r[i].1 := by
    rw [List.getD_eq_getElem?_getD, List.getElem?_map, List.getElem?_eq_getElem hi]
    rfl
  have hat := b.at_ r[i] (List.getElem_mem hi)
  have hge := wrt_ge lin pc q hat.2.1 64 k (by omega) hk2 (by omega)
  have hti : t ≤ i := by
    by_cases z : t ≤ i
    · exact z
    · exfalso
      rcases g3 with g3 | g3
      · omega
      · by_cases y : t = i + 1
        · subst y
          omega
        · have := up_lt b.up (i := i + 1) (j := t) (by omega) ht1
          omega
  have e1 : r[i].1 = wrt ow pc q 64 k := by
    by_cases z : t = i
    · subst z
      omega
    · have := up_lt b.up (i := t) (j := i) (by omega) (by omega)
      omega
  refine ⟨by omega, r[i], List.getElem?_eq_getElem hi, e1, ?_⟩
  rw [hat.2.2, e1]
  rfl
end K41
set_option maxHeartbeats 1000000
namespace K41
open PySem PySem.Spec PyProof.Rows L2 Gd
open C8 (clsBody Met pe_mt pe_mt0)
/-- the boxes of a row, Ne their own -/
structure Ext (Ne : Addr → Prop) (H : Hp) (fs : List (Str × V)) (ws : List Int) (ow pc : List Nat) (vl : List Int) (ks : List Nat) : Prop where
  ex : ∃ (d : Addr) (bs : List Addr) (rs : List (List (Nat × Int))), fs.lookup ("_boxes" : Str) = some (.ref d) ∧ H d = some (.lst (bs.map V.ref)) ∧ Ne d ∧ bs.length = ws.length ∧ rs.length = ws.length ∧ d ∉ bs ∧ bs.Nodup ∧ (∀ b, b ∈ bs → Ne b) ∧
    (∀ (q : Nat) (b : Addr) (r : List (Nat × Int)), bs[q]? = some b → rs[q]? = some r → ∃ xs, H b = some (.lst xs) ∧ ChX H xs r) ∧ ∀ (q : Nat) (r : List (Nat × Int)), rs[q]? = some r → Bx ws ow pc vl ks q r
  lin : Lin ow
/-- laid, and no tuple -/
def Ld (H : Hp) (c : Addr) : Prop := ∃ u, H c = some u ∧ ∀ ys, u ≠ .tup ys
theorem Ld.kp {H H' : Hp} {c : Addr} (l : Ld H c) (k : ∀ u, H c = some u → H' c = some u) : Ld H' c := by
  obtain ⟨u, e, n⟩ := l
  exact ⟨u, k u e, n⟩
theorem Ld.ne {H : Hp} {c : Addr} (l : Ld H c) : H c ≠ none := by
  obtain ⟨u, e, n⟩ := l
  rw [e]
  simp
theorem Ld.lst {H : Hp} {c : Addr} {xs : List V} (e : H c = some (.lst xs)) : Ld H c := ⟨_, e, fun _ z => by cases z⟩
theorem Ld.ins {H : Hp} {c C dx : Addr} {fs : List (Str × V)} (e : H c = some (.ins C dx fs)) : Ld H c := ⟨_, e, fun _ z => by cases z⟩
section
variable {Ne : Addr → Prop} {H H' : Hp} {fs fs' : List (Str × V)} {ws : List Int} {ow pc : List Nat} {vl : List Int} {ks : List Nat}
theorem Ext.kp (x : Ext Ne H fs ws ow pc vl ks) (k : ∀ c u, Ne c → H c = some u → H' c = some u) (kt : KT H H') : Ext Ne H' fs ws ow pc vl ks := by
  obtain ⟨⟨d, bs, rs, l, ed, nd, h1, h2, h3, h4, h5, h6, h7⟩, lin⟩ := x
  refine ⟨⟨d, bs, rs, l, k _ _ nd ed, nd, h1, h2, h3, h4, h5, fun q b r hb hr => ?_, h7⟩, lin⟩
  obtain ⟨xs, eb, cx⟩ := h6 q b r hb hr
  exact ⟨xs, k _ _ (h5 b (List.mem_of_getElem? hb)) eb, cx.kp kt⟩
theorem Ext.fld (x : Ext Ne H fs ws ow pc vl ks) (e : fs'.lookup ("_boxes" : Str) = fs.lookup ("_boxes" : Str)) : Ext Ne H fs' ws ow pc vl ks := by
  obtain ⟨⟨d, bs, rs, l, rest⟩, lin⟩ := x
  exact ⟨⟨d, bs, rs, e.trans l, rest⟩, lin⟩
end
/-- a row at o, N its own -/
structure RowA (N : Addr → Prop) (H : Hp) (o C CL : Addr) (ws : List Int) (ow pc : List Nat) (vl : List Int) (ks : List Nat) (st : Int) : Prop where
  ex : ∃ (NB Ne : Addr → Prop) (fs : List (Str × V)), RowB NB H o C CL ws.length ow pc ks st fs ∧ Ext Ne H fs ws ow pc vl ks ∧ (∀ c, NB c → N c) ∧ (∀ c, Ne c → N c) ∧ ∀ c, NB c → ¬ Ne c
  lv : vl.length = ow.length
  laid : ∀ c, N c → Ld H c
structure Fit (ws : List Int) (ow pc : List Nat) (vl : List Int) : Prop where
  low : Low ow
  few : ow.length ≤ 63
  lp : pc.length = ow.length
  lv : vl.length = ow.length
  sz : 1 ≤ ws.length ∧ ws.length ≤ 16
  lin : Lin ow
section
variable {N : Addr → Prop} {H H' : Hp} {o C CL : Addr} {ws : List Int} {ow pc : List Nat} {vl : List Int} {ks : List Nat} {st : Int}
theorem RowA.kp (r : RowA N H o C CL ws ow pc vl ks st) (k : ∀ c u, N c → H c = some u → H' c = some u) (kt : KT H H') : RowA N H' o C CL ws ow pc vl ks st := by
  obtain ⟨NB, Ne, fs, rb, x, s1, s2, dj⟩ := r.ex
  exact ⟨⟨NB, Ne, fs, rb.kp fun c u h z => k c u (s1 c h) z, x.kp (fun c u h z => k c u (s2 c h) z) kt, s1, s2, dj⟩, r.lv, fun c h => (r.laid c h).kp fun u z => k c u h z⟩
theorem RowA.same (r : RowA N H o C CL ws ow pc vl ks st) (s : Same H H') : RowA N H' o C CL ws ow pc vl ks st := r.kp (fun c u _ z => s c u z) (KT.of s)
theorem RowA.b (r : RowA N H o C CL ws ow pc vl ks st) : ∃ NB fs, RowB NB H o C CL ws.length ow pc ks st fs ∧ (∀ c, NB c → N c) := by
  obtain ⟨NB, Ne, fs, rb, x, s1, s2, dj⟩ := r.ex
  exact ⟨NB, fs, rb, s1⟩
theorem RowA.ins (r : RowA N H o C CL ws ow pc vl ks st) : ∃ dx fs, H o = some (.ins C dx fs) ∧ (∀ f, f ∉ rfields → fs.lookup f = none) := by
  obtain ⟨NB, fs, rb, _⟩ := r.b
  obtain ⟨dx, e, nl⟩ := rb.ins
  exact ⟨dx, fs, e, nl⟩
theorem RowA.own (r : RowA N H o C CL ws ow pc vl ks st) : N o := by
  obtain ⟨NB, fs, rb, s1⟩ := r.b
  exact s1 _ rb.own
theorem RowA.kt (r : RowA N H o C CL ws ow pc vl ks st) (k : ∀ c u, ¬ N c → H c = some u → H' c = some u) : KT H H' := fun c ys z => k c _ (fun h => by
  obtain ⟨u, e, n⟩ := r.laid c h
  rw [z] at e
  cases e
  exact n ys rfl) z
theorem RowA.fit (r : RowA N H o C CL ws ow pc vl ks st) : Fit ws ow pc vl := by
  obtain ⟨NB, Ne, fs, rb, x, s1, s2, dj⟩ := r.ex
  exact ⟨rb.low.1, rb.low.2, rb.lp, r.lv, rb.sz, x.lin⟩
theorem RowA.kl (r : RowA N H o C CL ws ow pc vl ks st) : ∀ i, i ∈ ks → i ≤ ow.length := by
  obtain ⟨NB, fs, rb, _⟩ := r.b
  exact rb.kl
/-- a step counted -/
theorem RowA.mono {M : Addr → Prop} (r : RowA N H o C CL ws ow pc vl ks st) (s : ∀ c, N c → M c) (l : ∀ c, M c → Ld H c) : RowA M H o C CL ws ow pc vl ks st := by
  obtain ⟨NB, Ne, fs, rb, x, s1, s2, dj⟩ := r.ex
  exact ⟨⟨NB, Ne, fs, rb, x, fun c h => s c (s1 c h), fun c h => s c (s2 c h), dj⟩, r.lv, l⟩
end
theorem Bx.first {ws : List Int} {q : Nat} : Bx ws [] [] [] [0] q [(0, ws.getD q 0)] := by
  refine ⟨List.pairwise_singleton _ _, fun e he => ?_, fun k hk => ?_, fun e he => ?_⟩
  · rw [List.mem_singleton.mp he]
    exact ⟨Nat.le_refl 0, fun h => absurd rfl h, rfl⟩
  · rw [List.mem_singleton.mp hk, wrt_none]
    exact List.mem_singleton.mpr rfl
  · rw [List.mem_singleton.mp he]
    exact ⟨0, List.mem_singleton.mpr rfl, wrt_none _ _⟩
section
variable {P : Program} {w : World} {K : PySem.W.Frag} {mg : Str → Option Value} {base : Heap} {C CL : Addr}
def spBegin (C : Addr) : Sp := fun vs H Q _ => ∃ (o l dx : Addr) (fs : List (Str × V)) (ws : List Int), vs = [.ref o, .ref l] ∧ H o = some (.ins C dx fs) ∧ H l = some (.lst (ws.map V.int)) ∧ fs.length < 99 ∧ ws.length ≤ 16 ∧
  ∀ (d : Addr) (H' : Hp) (Ne : Addr → Prop), H' o = some (.ins C dx (putF "_boxes" (.ref d) fs)) → Ext Ne H' (putF "_boxes" (.ref d) fs) ws [] [] [] [0] → (∀ c, Ne c → H c = none ∧ Ld H' c) → (∀ c u, c ≠ o → H c = some u → H' c = some u) → Q .non H'
theorem ok_begin (T : Txt K mg) (OC : RowC K C) (M : MAt K C "begin" "Lined.begin" s_Lined_begin ["self", "worths"]) : Met P w K mg base 1 C "begin" (spBegin C) [] := by
  refine M.met OC.cl sc_Lined_begin (fun vs H Q E h => ?_) (fun f cdv A outer s H vs Q E hr h => ?_)
  · obtain ⟨o, l, dx, fs, ws, rfl, _⟩ := h
    rfl
  · obtain ⟨o, l, dx, fs, ws, rfl, e1, el, lf, h16, q⟩ := h
    refine ⟨_, (pss_one (ps_fld (pv 0) (pe_lc (own := [("worth", 2)]) (g := gName 2) (tt := tYes) rfl sc_Lined_begin.nd (pi_list (pv 1)) (blkOk_by (own := [("worth", 2)]) (N := ["self", "worths", "worth"]) (sc := defScope s_Lined_begin) (by decide +kernel)) (fun _ _ _ _ _ => pg_name (i := 2) sc_Lined_begin.nd rfl (Or.inl rfl)) (fun _ _ _ _ _ => pts_nil) (fun _ _ _ _ _ => (pe_lst (pa_cons (pe_tup (pa_cons pe_int (pa_cons (pv 2) pa_nil))) pa_nil)))) rfl)), ?_⟩
    refine ⟨_, rfl, l, rfl, ⟨_, SqL.of el⟩, fun B hB => ?_⟩
    have oB : o ≠ B := ne_of_none e1 hB
    refine lc_it (walk_list (xs := ws.map V.int)) (fun k H' => Same H H' ∧ ∃ bs : List Addr, H' B = some (.lst (bs.map V.ref)) ∧ bs.length = k ∧ bs.Nodup ∧ B ∉ bs ∧ (∀ b, b ∈ bs → H b = none) ∧ ∀ (j : Nat) (b : Addr), bs[j]? = some b → ∃ t, H' b = some (.lst [.ref t]) ∧ H' t = some (.tup [num 0, .int (ws.getD j 0)])) ⟨same_new hB, [], upd_same, rfl, List.nodup_nil, List.not_mem_nil, (fun b hb => by cases hb), fun j b hj => by cases hj⟩ (fun k H' _ hP => SqL.of (hP.1 _ _ el)) (fun k v H2 H3 hk hP hY => ?_) (fun H2 hP => ?_)
    · obtain ⟨s2, bs, eB, hl, nd, nB, fr, hb⟩ := hP
      obtain ⟨rfl, hki⟩ := hY
      rw [List.length_map] at hk
      rw [List.getElem?_map, List.getElem?_eq_getElem hk] at hki
      cases (Option.some.inj hki)
      refine ⟨rfl, yesI ?_⟩
      refine ⟨_, rfl, (by show 2 ≤ sizeLine; decide), fun t ht => ⟨(by show 1 ≤ sizeLine; decide), fun b hb0 => ?_⟩⟩
      have s3 := same_new (o := .tup [V.int 0, .int ws[k]]) ht
      have et : (upd H3 t (.tup [V.int 0, .int ws[k]])) t = some (.tup [V.int 0, .int ws[k]]) := upd_same
      generalize upd H3 t (.tup [V.int 0, .int ws[k]]) = H4 at *
      have s4 := same_new (o := .lst [V.ref t]) hb0
      have eb : (upd H4 b (.lst [V.ref t])) b = some (.lst [V.ref t]) := upd_same
      generalize upd H4 b (.lst [V.ref t]) = H5 at *
      have eB5 := s4 _ _ (s3 _ _ eB)
      have hb2 := none_of' s3 hb0
      have bB : b ≠ B := fun e => by rw [e, eB] at hb2; cases hb2
      have tB : t ≠ B := fun e => by rw [e, eB] at ht; cases ht
      have nb : b ∉ bs := fun h => by
        obtain ⟨j, hj⟩ := List.getElem?_of_mem h
        obtain ⟨t', e', _⟩ := hb j b hj
        rw [e'] at hb2
        cases hb2
      have k6 : ∀ c u, c ≠ B → H5 c = some u → (upd H5 B (.lst (bs.map V.ref ++ [V.ref b]))) c = some u := fun c u hc z => by
        rw [upd_ne hc]
        exact z
      refine ⟨_, eB5, ?_, fun c u z => ?_, bs ++ [b], ?_, by rw [List.length_append, hl]; rfl, ?_, fun h => ?_, fun b' h => ?_, fun j b' h => ?_⟩
      · rw [List.length_map, hl]
        exact small1000 (by omega)
      · exact k6 _ _ (ne_of_none z hB) (s4 _ _ (s3 _ _ (s2 _ _ z)))
      · rw [upd_same, List.map_append]
        rfl
      · exact List.nodup_append.mpr ⟨nd, List.pairwise_singleton _ _, fun x hx y hy e => nb (by rw [← List.mem_singleton.mp hy, ← e]; exact hx)⟩
      · rcases List.mem_append.mp h with h | h
        · exact nB h
        · exact bB (List.mem_singleton.mp h).symm
      · rcases List.mem_append.mp h with h | h
        · exact fr b' h
        · rw [List.mem_singleton.mp h]
          exact none_of' s2 hb2
      · by_cases hj : j < bs.length
        · rw [List.getElem?_append_left hj] at h
          obtain ⟨t', e1', e2'⟩ := hb j b' h
          exact ⟨t', k6 _ _ (fun e => nB (e ▸ List.mem_of_getElem? h)) (s4 _ _ (s3 _ _ e1')), k6 _ _ (fun e => by rw [e, eB] at e2'; cases e2') (s4 _ _ (s3 _ _ e2'))⟩
        · rw [List.getElem?_append_right (by omega)] at h
          obtain ⟨rfl, rfl⟩ : j = k ∧ b' = b := by
            cases z : j - bs.length with
            | zero =>
              rw [z] at h
              cases h
              exact ⟨by omega, rfl⟩
            | succ m =>
              rw [z] at h
              cases h
          refine ⟨t, k6 _ _ bB eb, k6 _ _ tB ?_⟩
          rw [List.getD_eq_getElem?_getD, List.getElem?_eq_getElem hk]
          exact s4 _ _ et
    · obtain ⟨s2, bs, eB, hl, nd, nB, fr, hb⟩ := hP
      rw [List.length_map] at hl
      have k9 : ∀ c u, c ≠ o → H2 c = some u → (upd H2 o (.ins C dx (putF "_boxes" (.ref B) fs))) c = some u := fun c u hc z => by
        rw [upd_ne hc]
        exact z
      refine ⟨_, rfl, o, C, dx, fs, rfl, s2 _ _ e1, OC.cl, OC.n_boxes, by omega, ?_⟩
      have ob : ∀ b, b ∈ bs → b ≠ o := fun b h e => by
        have := fr b h
        rw [e, e1] at this
        cases this
      refine q B _ (fun c => c = B ∨ c ∈ bs) upd_same ⟨⟨B, bs, (List.range ws.length).map fun q => [(0, ws.getD q 0)], by rw [lookup_putF, if_pos rfl], k9 _ _ oB.symm eB, .inl rfl, hl, by rw [List.length_map, List.length_range], nB, nd, fun b h => .inr h, fun q b r hq hr => ?_, fun q r hr => ?_⟩, rfl⟩ (fun c h => ?_) (fun c u hc z => k9 _ _ hc (s2 _ _ z))
      · obtain ⟨t, e1', e2'⟩ := hb q b hq
        rw [List.getElem?_map] at hr
        obtain ⟨q', hq', rfl⟩ := Option.map_eq_some_iff.mp hr
        obtain ⟨hlt, rfl⟩ : q < ws.length ∧ q' = q := by
          have h1 := (List.getElem?_eq_some_iff.mp hq').1
          rw [List.length_range] at h1
          rw [List.getElem?_range h1] at hq'
          exact ⟨h1, (Option.some.inj hq').symm⟩
        have bo := ob b (List.mem_of_getElem? hq)
        refine ⟨_, k9 _ _ bo e1', rfl, fun i c hc => ?_⟩
        cases i with
        | zero =>
          cases hc
          exact ⟨t, rfl, k9 _ _ (fun e => by rw [e, s2 _ _ e1] at e2'; cases e2') e2'⟩
        | succ i => cases hc
      · rw [List.getElem?_map] at hr
        obtain ⟨q', hq', rfl⟩ := Option.map_eq_some_iff.mp hr
        have h1 := (List.getElem?_eq_some_iff.mp hq').1
        rw [List.length_range] at h1
        rw [List.getElem?_range h1] at hq'
        cases hq'
        exact Bx.first
      · rcases h with rfl | h
        · exact ⟨hB, .lst (k9 _ _ oB.symm eB)⟩
        · obtain ⟨j, hj⟩ := List.getElem?_of_mem h
          obtain ⟨t, e1', _⟩ := hb j c hj
          exact ⟨fr c h, .lst (k9 _ _ (ob c h) e1')⟩
end
end K41
/-! a method that returns super().m(..) -/
namespace Gs
open PySem PySem.Spec PyProof.Rows L2 Gd NdefX
open PySem.Calls
open PySem.W (Frag ksFn ks_superIn ks_loadName_global looks_mroIn looks_opaque looks_clsIn clsIn)
section
variable {CX : CXT} {P : Program} {w : World} {K : Frag} {mg : Str → Option Value} {base : Heap} {N : List Str} {F : NF} {f g C D cc : Addr} {A : Around} {outer : List Env} {s0 : Shared} {H0 : Hp} {E0 : XK} {m : Str}
/-- a def return super().m(e, ..) keeps its promise -/
theorem okS_ret {CX2 : CXT} {k : Nat} {fd2 : FuncData} {ps ps2 : List Str} {sp sp2 : Sp} {p0 p1 apos pos pst : Pos} {e : Expr} {es : List Expr}
    {oc : Value} {od : Option Addr} {doc pm : Value} {an : Option Addr} {ct : Value} {osl : Array (Option Value)}
    (T : SupTxt P K C D f g cc F m) (hf : K.lookup f = some ⟨oc, od, .func (ksFn F.name F.qual F.params F.body F.scope .none .none doc pm an (.ref F.c) ct cc), osl⟩)
    (S : NScope N ps ["__class__"] F.scope)
    (hbd : F.body = .Return (some (.Call (.Attribute (.Call (.Name "super" p0) [] [] p1) m apos) (e :: es) [] pos)) pst :: [])
    (ar : ∀ vs H Q E, sp vs H Q E → vs.length = ps.length) (hN : N[0]? = some ("self" : Str))
    (G : FnOk P w K mg base CX2 k g fd2 ps2 sp2) (hb2 : Binds K fd2 ps2 [])
    (hline : (apos.endLine == pos.line) = true)
    (hform : ∀ L, methodCallForm ((e :: es).length + ([] : List Keyword).length) (backTo pos (starEach (e :: es) (envF F f L))) (backToKw pos (keywordEach [] (envF F f L))) = true)
    (he : ∀ L, starEach (e :: es) (envF F f L) = (false, eval e (envF F f L)) :: starEach es (envF F f L))
    (hpl : ∀ L, (backTo pos (starEach es (envF F f L))).any (·.1) = false)
    (bd : ∀ (A : Around) (outer : List Env) (s : Shared) (H : Hp) (vs : List V) (Q : VK) (E : XK), Room k (A.deeper (envF F f s.heap.objs.size)) → sp vs H Q E →
      ∃ (x dx : Addr) (fs : List (Str × V)) (E2 : XK) (ta : TA), (startF N vs [some (.ref D)])[0]? = some (some (.ref x)) ∧ H x = some (.ins C dx fs) ∧ Passes CX2 (ncx CX P w K mg base N F f A outer s H E) E2 ∧
        PA (ncx CX P w K mg base N F f A outer s H E) (e :: es) ta ∧
        ta (startF N vs [some (.ref D)]) H fun ws H1 => sp2 (.ref x :: ws) H1 Q E2) :
    FnOk P w K mg base CX (k + 1) f (ksFn F.name F.qual F.params F.body F.scope .none .none doc pm an (.ref F.c) ct cc) ps sp := by
  refine ⟨ar, fun A outer s H args us vs Q E room env bind rel prem => ?_⟩
  have kin : K.In s.heap := env.mod.kin.keeps fun b o z => (env.bs b o z).1
  have nl : s.heap.NoLimit := env.mod.nolimit.keeps fun b o z => (env.bs b o z).1
  have long := ar _ _ _ _ prem
  obtain ⟨x, dx, fs, E2, ta, hσ, hx, hp, ha, q⟩ := bd A outer s H vs Q E (room.deeper _) prem
  have cells := cells_at T env
  have TT := T
  obtain ⟨nm, qual, params, body, scope, cl, c⟩ := F
  have hcl : cl = [(("__class__" : Str), cc)] := T.cl
  subst hcl
  refine ks_codeAny_call_defAt (binds := ps.zip us) room.depth (kin _ _ hf) rfl nl (PySem.W.codeRec_of kin T.code) rfl bind S.nocell (fun z hz => S.par z.1 (List.of_mem_zip hz).1) (fun h₁ hns k₁ => ?_) S.co S.gen S.kind
  have I : Inv (ncx CX P w K mg base N ⟨nm, qual, params, body, scope, [(("__class__" : Str), cc)], c⟩ f A outer s H E) [] (startF N vs [some (.ref D)]) H { s with heap := h₁, toks := s.toks + (ps.zip us).length } := inv_startN S room.hd env long rel cells hns k₁
  have hbd2 : body = .Return (some (.Call (.Attribute (.Call (.Name "super" p0) [] [] p1) m apos) (e :: es) [] pos)) pst :: [] := hbd
  subst hbd2
  generalize hF : (⟨nm, qual, params, .Return (some (.Call (.Attribute (.Call (.Name "super" p0) [] [] p1) m apos) (e :: es) [] pos)) pst :: [], scope, [(("__class__" : Str), cc)], c⟩ : NF) = F at *
  have W : _root_.PySem.wpAt (model P w) (ncx CX P w K mg base N F f A outer s H E).A (.func F.body (envF F f s.heap.objs.size)) (execs F.body (envF F f s.heap.objs.size))
      (SP (ncx CX P w K mg base N F f A outer s H E) [] { nx := fun _ H' => Q .non H', rt := Q }) (ncx CX P w K mg base N F f A outer s H E).xe { s with heap := h₁, toks := s.toks + (ps.zip us).length } := by
    rw [hbd]
    apply ks_wpAt_execs_cons
    apply ks_wpAt_Return_some
    apply PySem.ks_wpAt_mono (eval_super (σ := startF N vs [some (.ref D)]) TT hline (hform _) I hN hσ hx G (room.deeper _) hb2 hp ha (he _) (hpl _) q)
    · intro v s1 hv
      obtain ⟨u, H1, I1, ru, q1⟩ := hv
      exact ⟨u, _, H1, I1, ru, q1⟩
    · exact fun _ _ z => z
  subst hF
  refine PySem.ks_wpAt_mono W (fun fl s' hs => ?_) fun _ _ z => z
  · cases fl with
    | ret u =>
      obtain ⟨v, σ2, H2, J, rv, qv⟩ := hs
      exact ⟨v, H2, J.os, J.bare, J.base, J.hok, rv, qv⟩
    | next =>
      obtain ⟨σ2, H2, J, qv⟩ := hs
      exact ⟨.non, H2, J.os, J.bare, J.base, J.hok, rfl, qv⟩
    | brk =>
      obtain ⟨_, _, _, qv⟩ := hs
      exact qv.elim
    | cont =>
      obtain ⟨_, _, _, qv⟩ := hs
      exact qv.elim
end
end Gs
set_option maxHeartbeats 1000000
namespace K41
open PySem PySem.Spec PyProof.Rows L2 Gd Gs
open NdefX (NScope nscope_by ncx startF NF)
open C8 (clsBody Met pe_mt pe_mt0)
theorem Tw.cutL {C t : Addr} {N : Addr → Prop} {H : Hp} {ow : List Nat} (w : Tw N H t C ow) : Tw (fun c => N c ∧ Ld H c) H t C ow := by
  obtain ⟨dx, o, d, n, fs, ns, e1, l1, l2, l3, nl, e2, e3, e4, lf, hl, a1, a2, a3, hin, inj, No, Nd, Nn⟩ := w.ex
  refine ⟨⟨dx, o, d, n, fs, ns, e1, l1, l2, l3, nl, e2, e3, e4, lf, hl, a1, a2, a3, fun i a ha => ?_, inj, ⟨No, .lst e2⟩, ⟨Nd, .lst e3⟩, ⟨Nn, .lst e4⟩⟩, w.low, w.few⟩
  obtain ⟨h1, b1, b2, b3, b4⟩ := hin i a ha
  exact ⟨h1, b1, b2, b3, b4, .lst h1⟩
theorem Lw.cutL {C t : Addr} {N : Addr → Prop} {H : Hp} {ow : List Nat} (l : Lw C N H t ow) : Lw C (fun c => N c ∧ Ld H c) H t ow := by
  obtain ⟨N1, N2, dx, q, fs, tw, e1, l1, lv, dis, i1, i2⟩ := l.ex
  obtain ⟨ls, h1, h2, h3, h4⟩ := lv.ex
  refine ⟨_, (fun c => N2 c ∧ Ld H c), dx, q, fs, tw.cutL, e1, l1, ⟨ls, h1, h2, ⟨h3, .lst h1⟩, fun i a ha => ?_⟩, fun c h1 h2 => dis c h1.1 h2.1, fun c h => ⟨i1 _ h.1, h.2⟩, fun c h => ⟨i2 _ h.1, h.2⟩⟩
  obtain ⟨a1, a2, ks, a3, a4⟩ := h4 i a ha
  exact ⟨⟨a1, .lst a3⟩, a2, ks, a3, a4⟩
theorem RowB.cutL {N : Addr → Prop} {H : Hp} {o C CL : Addr} {n : Nat} {ow pc ks : List Nat} {st : Int} {fs : List (Str × V)} (r : RowB N H o C CL n ow pc ks st fs) : RowB (fun c => N c ∧ Ld H c) H o C CL n ow pc ks st fs := by
  obtain ⟨dx, t, p, kk, Nt, e1, l1, l2, l3, l4, l5, nl, lf, lw, e2, e3, No, Nt', Np, Nk, sub, x1, x2, x3, x4, x6, x7⟩ := r.ex
  have et : Ld H t := by
    obtain ⟨dx, o, d, n, fs, e1, _⟩ := lw.tr.ex
    exact .ins e1
  exact ⟨⟨dx, t, p, kk, _, e1, l1, l2, l3, l4, l5, nl, lf, lw.cutL, e2, e3, ⟨No, .ins e1⟩, ⟨Nt', et⟩, ⟨Np, .lst e2⟩, ⟨Nk, .lst e3⟩, fun c h => ⟨sub c h.1, h.2⟩, fun h => x1 h.1, fun h => x2 h.1, fun h => x3 h.1, fun h => x4 h.1, x6, x7⟩, r.lp, r.sz, r.pl, r.kl, r.kr⟩
section
variable {P : Program} {w : World} {K : PySem.W.Frag} {mg : Str → Option Value} {base : Heap} {C CL : Addr}
theorem metImp {k : Nat} {m : Str} {sp sp' : Sp} (M : Met P w K mg base k C m sp []) (h : ∀ vs H Q E, sp' vs H Q E → sp vs H Q E) : Met P w K mg base k C m sp' [] := by
  obtain ⟨f, fd, ps, ds, cl, me, F, b, d⟩ := M.ex
  exact ⟨f, fd, ps, ds, cl, me, F.imp h, b, d⟩
theorem metMono {j k : Nat} {m : Str} {sp : Sp} (M : Met P w K mg base j C m sp []) (h : j ≤ k) : Met P w K mg base k C m sp [] := by
  obtain ⟨f, fd, ps, ds, cl, me, F, b, d⟩ := M.ex
  exact ⟨f, fd, ps, ds, cl, me, F.mono h, b, d⟩
def spInitA (C CL : Addr) : Sp := fun vs H Q _ => ∃ (o dx a : Addr) (ws : List Int), vs = [.ref o, .ref a] ∧ H o = some (.ins C dx []) ∧ (H a = some (.lst (ws.map V.int)) ∨ H a = some (.tup (ws.map V.int))) ∧ 1 ≤ ws.length ∧ ws.length ≤ 16 ∧ (∀ x, x ∈ ws → -big30 ≤ x ∧ x ≤ big30) ∧
  ∀ (H' : Hp) (N' : Addr → Prop), RowA N' H' o C CL ws [] [] [] [0] 0 → (∀ c u, c ≠ o → H c = some u → H' c = some u) → (∀ c, N' c → c = o ∨ H c = none) → Q .non H'
theorem init_imp {vs : List V} {H : Hp} {Q : VK} {E : XK} (h : spInitA C CL vs H Q E) : spRInit (spBegin C) C CL vs H Q E := by
  obtain ⟨o, dx, a, ws, rfl, e1, hor, h1, h2, hw, q⟩ := h
  refine ⟨o, dx, a, ws, rfl, e1, hor, h1, h2, hw, fun l H' N' fs rb p5 nlb el hl ol nN k f Q2 E2 hQ => ?_⟩
  have rb := rb.cutL
  obtain ⟨dx', e', nl'⟩ := rb.ins
  refine ⟨o, l, dx', fs, ws, rfl, e', el, by omega, h2, fun d H2 Ne eo x xf k2 => hQ _ _ (q H2 (fun c => (N' c ∧ Ld H' c) ∨ Ne c) ⟨⟨_, Ne, _, rb.put (by decide) (by decide) (by omega) eo (fun c u hc _ z => k2 c u hc z), x, fun c h => .inl h, fun c h => .inr h, fun c h1 h2 => (f c h1.1).2 (xf c h2).1⟩, rfl, fun c h => ?_⟩ (fun c u hc z => k2 _ _ hc (k _ _ hc z)) fun c h => ?_)⟩
  · rcases h with h | h
    · by_cases z : c = o
      · rw [z]
        exact .ins eo
      · exact h.2.kp fun u y => k2 c u z y
    · exact (xf c h).2
  · rcases h with h | h
    · exact (f c h.1).1
    · right
      cases z : H c with
      | none => rfl
      | some u =>
        by_cases y : c = o
        · have := (xf c h).1
          rw [y, e'] at this
          cases this
        · have := (xf c h).1
          rw [k c u y z] at this
          cases this
end
end K41
set_option maxHeartbeats 1000000
namespace K41
open PySem PySem.Spec PyProof.Rows L2 Gd Gs
open NdefX (NScope nscope_by ncx startF NF)
open C8 (clsBody Met pe_mt pe_mt0)
theorem RowB.stepped {N : Addr → Prop} {H H' : Hp} {o C CL dx : Addr} {n : Nat} {ow pc ks : List Nat} {st st2 : Int} {fs : List (Str × V)} (r : RowB N H o C CL n ow pc ks st fs) (e : H' o = some (.ins C dx (putF "_row_steps" (.int st2) fs))) (k : ∀ c u, c ≠ o → N c → H c = some u → H' c = some u) : RowB N H' o C CL n ow pc ks st2 (putF "_row_steps" (.int st2) fs) := by
  obtain ⟨dx0, t, p, kk, Nt, e1, l1, l2, l3, l4, l5, nl, lf, lw, e2, e3, No, Nt', Np, Nk, sub, x1, x2, x3, x4, x6, x7⟩ := r.ex
  have op : o ≠ p := fun z => by rw [z, e2] at e1; cases e1
  have ok : o ≠ kk := fun z => by rw [z, e3] at e1; cases e1
  have hlen := putF_len (v := .int st2) l5
  refine ⟨⟨dx, t, p, kk, Nt, e, ?_, ?_, ?_, ?_, ?_, fun g hg => ?_, by rw [hlen]; exact lf, lw.kp (fun c u h z => k c u (h.elim (fun h e => x1 (e ▸ h)) fun e => e ▸ x7.symm) (h.elim (sub c) fun e => e ▸ Nt') z), k _ _ op.symm Np e2, k _ _ ok.symm Nk e3, No, Nt', Np, Nk, sub, x1, x2, x3, x4, x6, x7⟩, r.lp, r.sz, r.pl, r.kl, r.kr⟩
  · rw [lookup_putF, if_neg (by decide)]; exact l1
  · rw [lookup_putF, if_neg (by decide)]; exact l2
  · rw [lookup_putF, if_neg (by decide)]; exact l3
  · rw [lookup_putF, if_neg (by decide)]; exact l4
  · rw [lookup_putF, if_pos rfl]
  · rw [lookup_putF, if_neg (fun z => hg (by rw [z]; decide))]
    exact nl g hg
theorem Bx.put {ws : List Int} {ow pc : List Nat} {vl : List Int} {ks : List Nat} {q j : Nat} {x : Int} {r : List (Nat × Int)} (b : Bx ws ow pc vl ks q r) (low : Low ow) (lp : pc.length = ow.length) (lv : vl.length = ow.length) (h62 : ow.length ≤ 62) (kl : ∀ i, i ∈ ks → i ≤ ow.length) (hn : ow.length ∈ ks) :
    Bx ws (ow ++ [ow.length]) (pc ++ [j]) (vl ++ [x]) (ks ++ [ow.length + 1]) q (if j = q then r ++ [(ow.length + 1, x)] else r) := by
  have wn := wrt_new (j := j) low lp (Nat.le_refl ow.length) h62 q
  have wa := fun k hk => wrt_app (i := ow.length) (j := j) low lp q 64 k hk
  have la : (ow ++ [ow.length]).length = ow.length + 1 := by rw [List.length_append]; rfl
  have old : ∀ e, e ∈ r → e.1 ≤ ow.length + 1 ∧ (e.1 ≠ 0 → (pc ++ [j]).getD (e.1 - 1) 0 = q) ∧ e.2 = (if e.1 = 0 then ws.getD q 0 else (vl ++ [x]).getD (e.1 - 1) 0) := fun e he => by
    obtain ⟨a1, a2, a3⟩ := b.at_ e he
    refine ⟨by omega, fun z => ?_, ?_⟩
    · rw [getD_old (by omega)]
      exact a2 z
    · by_cases z : e.1 = 0
      · rw [if_pos z] at a3 ⊢
        exact a3
      · rw [if_neg z] at a3 ⊢
        rw [getD_old (by omega)]
        exact a3
  by_cases h : j = q
  · subst h
    rw [if_pos rfl] at wn ⊢
    refine ⟨?_, fun e he => ?_, fun k hk => ?_, fun e he => ?_⟩
    · rw [List.map_append]
      refine List.pairwise_append.mpr ⟨b.up, List.pairwise_singleton _ _, fun a ha c hc => ?_⟩
      rw [List.mem_singleton.mp hc]
      obtain ⟨e, he, rfl⟩ := List.mem_map.mp ha
      exact Nat.lt_succ_of_le (b.at_ e he).1
    · rw [la]
      rcases List.mem_append.mp he with he | he
      · exact old e he
      · rw [List.mem_singleton.mp he]
        refine ⟨Nat.le_refl _, fun _ => ?_, ?_⟩
        · show (pc ++ [j]).getD ow.length 0 = j
          rw [← lp]
          exact getD_new
        · show x = (if ow.length + 1 = 0 then _ else (vl ++ [x]).getD ow.length 0)
          rw [if_neg (by omega), ← lv]
          exact getD_new.symm
    · rw [List.map_append]
      rcases List.mem_append.mp hk with hk | hk
      · rw [wa k (kl k hk)]
        exact List.mem_append_left _ (b.all k hk)
      · rw [List.mem_singleton.mp hk, wn]
        exact List.mem_append_right _ (List.mem_singleton.mpr rfl)
    · rcases List.mem_append.mp he with he | he
      · obtain ⟨k, hk, e2⟩ := b.only e he
        exact ⟨k, List.mem_append_left _ hk, by rw [wa k (kl k hk)]; exact e2⟩
      · rw [List.mem_singleton.mp he]
        exact ⟨ow.length + 1, List.mem_append_right _ (List.mem_singleton.mpr rfl), wn⟩
  · rw [if_neg h] at wn ⊢
    refine ⟨b.up, fun e he => by rw [la]; exact old e he, fun k hk => ?_, fun e he => ?_⟩
    · rcases List.mem_append.mp hk with hk | hk
      · rw [wa k (kl k hk)]
        exact b.all k hk
      · rw [List.mem_singleton.mp hk, wn]
        exact b.all _ hn
    · obtain ⟨k, hk, e2⟩ := b.only e he
      exact ⟨k, List.mem_append_left _ hk, by rw [wa k (kl k hk)]; exact e2⟩
theorem ChX.snoc {H H' : Hp} {xs : List V} {cs : List (Nat × Int)} {c : Nat × Int} {t : Addr} (r : ChX H xs cs) (kt : KT H H') (et : H' t = some (.tup [num c.1, .int c.2])) : ChX H' (xs ++ [.ref t]) (cs ++ [c]) := by
  have r := r.kp kt
  refine ⟨by rw [List.length_append, List.length_append, r.len]; rfl, fun i d e => ?_⟩
  by_cases hi : i < cs.length
  · rw [List.getElem?_append_left hi] at e
    rw [List.getElem?_append_left (by rw [r.len]; exact hi)]
    exact r.at_ i d e
  · rw [List.getElem?_append_right (by omega)] at e
    rw [List.getElem?_append_right (by rw [r.len]; omega), r.len]
    cases z : i - cs.length with
    | zero =>
      rw [z] at e
      cases e
      exact ⟨t, rfl, et⟩
    | succ j =>
      rw [z] at e
      cases e
theorem nd_at {bs : List Addr} (nd : bs.Nodup) {i j : Nat} {b : Addr} (hi : bs[i]? = some b) (hj : bs[j]? = some b) : i = j := by
  have h1 := (List.getElem?_eq_some_iff.mp hi)
  have h2 := (List.getElem?_eq_some_iff.mp hj)
  obtain ⟨p1, e1⟩ := h1
  obtain ⟨p2, e2⟩ := h2
  by_cases z : i = j
  · exact z
  · exfalso
    have := List.pairwise_iff_getElem.mp nd
    by_cases y : i < j
    · exact this i j p1 p2 y (e1.trans e2.symm)
    · exact this j i p2 p1 (by omega) (e2.trans e1.symm)
section
variable {P : Program} {w : World} {K : PySem.W.Frag} {mg : Str → Option Value} {base : Heap} {C CL : Addr}
def spAddR (C : Addr) : Sp := fun vs H Q _ => ∃ (o dx : Addr) (fs : List (Str × V)) (st : Int) (j : Nat), vs = [.ref o, num j] ∧ H o = some (.ins C dx fs) ∧ fs.lookup ("_row_steps" : Str) = some (.int st) ∧ fs.length < 100 ∧ Q .non (upd H o (.ins C dx (putF "_row_steps" (.int (st + (j : Nat))) fs)))
theorem ok_addR (T : Txt K mg) (OC : RowC K C) (M : MAt K C "add_steps" "Rows.add_steps" s_Rows_add_steps ["self", "many"]) : Met P w K mg base 1 C "add_steps" (spAddR C) [] := by
  refine M.met OC.cl sc_Rows_add_steps (fun vs H Q E h => ?_) (fun f cdv A outer s H vs Q E hr h => ?_)
  · obtain ⟨o, dx, fs, st, j, rfl, _⟩ := h
    rfl
  · obtain ⟨o, dx, fs, st, j, rfl, e1, l5, lf, q⟩ := h
    refine ⟨_, (pss_one (ps_fldaug (pv 0) (pv 1) in_add)), ?_⟩
    exact ⟨_, rfl, o, C, dx, fs, .int st, rfl, e1, OC.cl, OC.n_steps, l5, _, rfl, _, _, rfl, rfl, dx, fs, e1, by omega, q⟩
def spStore (C : Addr) : Sp := fun vs H Q _ => ∃ (o dx d b : Addr) (fs : List (Str × V)) (st x : Int) (bs : List Addr) (xs : List V) (i n q : Nat), vs = [.ref o, num i, num n, num q, .int x] ∧ H o = some (.ins C dx fs) ∧ fs.lookup ("_row_steps" : Str) = some (.int st) ∧ fs.lookup ("_boxes" : Str) = some (.ref d) ∧ fs.lookup ("add_steps" : Str) = none ∧ fs.length < 100 ∧ H d = some (.lst (bs.map V.ref)) ∧ bs[q]? = some b ∧ H b = some (.lst xs) ∧ xs.length < 900 ∧
  ∀ (t : Addr) (H' : Hp), H t = none → H' t = some (.tup [num n, .int x]) → H' o = some (.ins C dx (putF "_row_steps" (.int (st + ((1 : Nat) : Int))) fs)) → H' b = some (.lst (xs ++ [.ref t])) → (∀ c u, c ≠ o → c ≠ b → H c = some u → H' c = some u) → Q .non H'
theorem ok_store (T : Txt K mg) (OC : RowC K C) (m_add_steps : Met P w K mg base 1 C "add_steps" (spAddR C) []) (M : MAt K C "store" "Lined.store" s_Lined_store ["self", "make", "number", "place", "worth"]) : Met P w K mg base 2 C "store" (spStore C) [] := by
  refine M.met OC.cl sc_Lined_store (fun vs H Q E h => ?_) (fun f cdv A outer s H vs Q E hr h => ?_)
  · obtain ⟨o, dx, d, b, fs, st, x, bs, xs, i, n, q, rfl, _⟩ := h
    rfl
  · obtain ⟨o, dx, d, b, fs, st, x, bs, xs, i, n, q, rfl, e1, l5, l6, na, lf, ed, hb, eb, few, k⟩ := h
    refine ⟨_, (pss_cons (ps_expr (pe_bm PySem.F.plainAttrs_list PySem.F.slot_list_append PySem.F.type_list_append mt_append (pe_ix ix_list (pe_fld (pv 0) rfl) (pv 3) (fun _ _ => rfl)) (pa_cons (pe_tup (pa_cons (pv 2) (pa_cons (pv 4) pa_nil))) pa_nil)))
      (pss_one (ps_expr (pe_mt m_add_steps hr (by decide) (pv 0) (pa_cons pe_int pa_nil))))), ?_⟩
    have ob : o ≠ b := fun z => by rw [z, eb] at e1; cases e1
    refine ⟨_, rfl, o, C, dx, fs, .ref d, rfl, e1, OC.cl, OC.n_boxes, l6, _, rfl, d, _, _, .ref b, rfl, rfl, SqL.of ed, atI_nat (by rw [List.getElem?_map, hb]; rfl), .inl ⟨rfl, _, SqL.of eb⟩, _, rfl, _, rfl, (by show 2 ≤ sizeLine; decide), fun t ht => ?_⟩
    have s1 := same_new (o := .tup [num n, .int x]) ht
    have et : (upd H t (.tup [num n, .int x])) t = some (.tup [num n, .int x]) := upd_same
    generalize upd H t (.tup [num n, .int x]) = H1 at *
    have tb : t ≠ b := fun z => by rw [z, eb] at ht; cases ht
    have to : t ≠ o := fun z => by rw [z, e1] at ht; cases ht
    refine ⟨b, _, _, rfl, rfl, s1 _ _ eb, small1000 (by omega), ?_⟩
    have k2 : ∀ c u, c ≠ b → H1 c = some u → (upd H1 b (.lst (xs ++ [V.ref t]))) c = some u := fun c u hc z => by
      rw [upd_ne hc]
      exact z
    have eb2 : (upd H1 b (.lst (xs ++ [V.ref t]))) b = some (.lst (xs ++ [V.ref t])) := upd_same
    generalize upd H1 b (.lst (xs ++ [V.ref t])) = H2 at *
    have e2 := k2 _ _ ob (s1 _ _ e1)
    refine ⟨_, rfl, o, dx, fs, rfl, e2, na, o, dx, fs, st, 1, rfl, e2, l5, lf, ?_⟩
    refine k t _ ht ?_ upd_same ?_ fun c u h1 h2 z => ?_
    · rw [upd_ne to]
      exact k2 _ _ tb et
    · rw [upd_ne ob.symm]
      exact eb2
    · rw [upd_ne h1]
      exact k2 _ _ h2 (s1 _ _ z)
def spRPutA (C CL : Addr) : Sp := fun vs H Q _ => ∃ (N : Addr → Prop) (o : Addr) (ws : List Int) (ow pc : List Nat) (vl : List Int) (ks : List Nat) (st : Int) (j : Nat) (x : Int), vs = [.ref o, num ow.length, num j, .int x] ∧ RowA N H o C CL ws ow pc vl ks st ∧ ow.length ∈ ks ∧ ow.length < 63 ∧ ks.length ≤ 100 ∧ j < ws.length ∧
  ∀ (H' : Hp) (N' : Addr → Prop), RowA N' H' o C CL ws (ow ++ [ow.length]) (pc ++ [j]) (vl ++ [x]) (ks ++ [ow.length + 1]) (st + ((1 : Nat) : Int)) → (∀ c u, ¬ N c → H c = some u → H' c = some u) → (∀ c, N' c → N c ∨ H c = none) → Q (num (ow.length + 1)) H'
theorem rput_imp {vs : List V} {H : Hp} {Q : VK} {E : XK} (h : spRPutA C CL vs H Q E) : spRPut (spStore C) C CL vs H Q E := by
  obtain ⟨N, o, ws, ow, pc, vl, ks, st, j, x, rfl, r, hk, hlt, hks, hj, q⟩ := h
  have ft := r.fit
  obtain ⟨NB, Ne, fs, rb, xt, s1, s2, dj⟩ := r.ex
  refine ⟨NB, o, ws.length, ow, pc, ks, st, fs, ow.length, j, x, rfl, rb, Nat.le_refl _, hlt, hks, hj, fun H1 N1 r1 k1 f1 Q2 E2 hQ => ?_⟩
  have r1 := r1.cutL
  have kt1 : KT H H1 := fun c ys z => k1 _ _ (fun h => by
    obtain ⟨u, e, n⟩ := r.laid c (s1 c h)
    rw [z] at e
    cases e
    exact n ys rfl) z
  have x1 := xt.kp (fun c u hc z => k1 c u (fun h => dj c h hc) z) kt1
  obtain ⟨⟨d, bs, rs, l, ed, nd, h1, h2, h3, h4, h5, h6, h7⟩, lin⟩ := x1
  obtain ⟨b, hb⟩ : ∃ b, bs[j]? = some b := ⟨bs[j], List.getElem?_eq_getElem (by omega)⟩
  obtain ⟨rr, hrr⟩ : ∃ rr, rs[j]? = some rr := ⟨rs[j], List.getElem?_eq_getElem (by omega)⟩
  obtain ⟨xs, eb, cx⟩ := h6 j b rr hb hrr
  have hbm := List.mem_of_getElem? hb
  have n1e : ∀ c, (N1 c ∧ Ld H1 c) → ¬ Ne c := fun c h hn => (f1 c h.1).elim (fun z => dj c z hn) fun z => (r.laid c (s2 c hn)).ne z
  obtain ⟨dx, e1, nl⟩ := r1.ins
  obtain ⟨_, _, _, _, _, _, _, _, _, _, l5, _⟩ := r1.ex
  have hlen := (h7 j rr hrr).len
  have few := ft.few
  have ob : o ≠ b := fun z => n1e o r1.own (z ▸ h5 b hbm)
  have od : o ≠ d := fun z => n1e o r1.own (z ▸ nd)
  have bd : d ≠ b := fun z => h3 (z ▸ hbm)
  refine ⟨o, dx, d, b, fs, st, x, bs, xs, ow.length, ow.length + 1, j, rfl, e1, l5, l, nl _ (by decide), rb.few, ed, hb, eb, by rw [cx.len]; omega, fun t H2 ht et eo eb2 k2 => hQ _ _ ?_⟩
  have r2 := r1.stepped eo fun c u hc hn z => k2 c u hc (fun e => n1e c hn (e ▸ h5 b hbm)) z
  have kt2 : KT H1 H2 := fun c ys z => k2 _ _ (fun e => by rw [e, e1] at z; cases z) (fun e => by rw [e, eb] at z; cases z) z
  have hl2 : (putF "_row_steps" (.int (st + ((1 : Nat) : Int))) fs).lookup ("_boxes" : Str) = some (.ref d) := by
    rw [lookup_putF, if_neg (by decide)]
    exact l
  refine q H2 (fun c => (N1 c ∧ Ld H1 c) ∨ Ne c) ⟨⟨_, Ne, _, r2, ⟨⟨d, bs, rs.set j (rr ++ [(ow.length + 1, x)]), hl2, k2 _ _ od.symm bd ed, nd, h1, by rw [List.length_set]; exact h2, h3, h4, h5, fun p b' r' hb' hr' => ?_, fun p r' hr' => ?_⟩, lin.more⟩, fun c h => .inl h, fun c h => .inr h, fun c h hn => n1e c h hn⟩, ?_, fun c h => ?_⟩ (fun c u hc z => ?_) fun c h => ?_
  · by_cases hp : p = j
    · subst hp
      rw [hb] at hb'
      cases hb'
      rw [List.getElem?_set_self (List.getElem?_eq_some_iff.mp hrr).1] at hr'
      cases hr'
      exact ⟨_, eb2, cx.snoc kt2 et⟩
    · rw [List.getElem?_set_ne (fun e => hp e.symm)] at hr'
      obtain ⟨ys, ey, cy⟩ := h6 p b' r' hb' hr'
      exact ⟨ys, k2 _ _ (fun e => by rw [e, e1] at ey; cases ey) (fun e => hp (nd_at h4 (e ▸ hb') hb)) ey, cy.kp kt2⟩
  · have pt : ∀ {p : Nat} {r0 : List (Nat × Int)}, rs[p]? = some r0 → Bx ws (ow ++ [ow.length]) (pc ++ [j]) (vl ++ [x]) (ks ++ [ow.length + 1]) p (if j = p then r0 ++ [(ow.length + 1, x)] else r0) := fun hr => (h7 _ _ hr).put ft.low ft.lp ft.lv (by omega) rb.kl hk
    by_cases hp : p = j
    · subst hp
      rw [List.getElem?_set_self (List.getElem?_eq_some_iff.mp hrr).1] at hr'
      cases hr'
      have := pt hrr
      rw [if_pos rfl] at this
      exact this
    · rw [List.getElem?_set_ne (fun e => hp e.symm)] at hr'
      have := pt hr'
      rw [if_neg (fun e => hp e.symm)] at this
      exact this
  · rw [List.length_append, List.length_append, r.lv]
    rfl
  · by_cases z1 : c = o
    · rw [z1]
      exact .ins eo
    · by_cases z2 : c = b
      · rw [z2]
        exact .lst eb2
      · rcases h with h | h
        · exact h.2.kp fun u y => k2 c u z1 z2 y
        · exact ((r.laid c (s2 c h)).kp fun u y => k1 c u (fun hb => dj c hb h) y).kp fun u y => k2 c u z1 z2 y
  · exact k2 _ _ (fun e => hc (e ▸ r.own)) (fun e => hc (e ▸ s2 b (h5 b hbm))) (k1 _ _ (fun h => hc (s1 c h)) z)
  · rcases h with h | h
    · exact (f1 c h.1).imp (s1 c) id
    · exact .inl (s2 c h)
end
end K41
set_option maxHeartbeats 1000000
namespace K41
open PySem PySem.Spec PyProof.Rows L2 Gd Gs
open NdefX (NScope nscope_by ncx startF NF)
open C8 (clsBody Met pe_mt pe_mt0)
section
variable {P : Program} {w : World} {K : PySem.W.Frag} {mg : Str → Option Value} {base : Heap} {C CL : Addr}
/-- the newest one alone may be put on -/
def spNewL (C CL : Addr) : Sp := fun vs H Q _ => ∃ (N : Addr → Prop) (o : Addr) (n : Nat) (ow pc ks : List Nat) (st : Int) (fs : List (Str × V)), vs = [.ref o, num ow.length] ∧ RowB N H o C CL n ow pc ks st fs ∧ Q .non H
theorem ok_newL (T : Txt K mg) (OC : RowC K C) (m_many : Met P w K mg base 1 C "many" (spRMany C CL) []) (M : MAt K C "need_new" "Lined.need_new" s_Lined_need_new ["self", "make"]) : Met P w K mg base 2 C "need_new" (spNewL C CL) [] := by
  refine M.met OC.cl sc_Lined_need_new (fun vs H Q E h => ?_) (fun f cdv A outer s H vs Q E hr h => ?_)
  · obtain ⟨N, o, n, ow, pc, ks, st, fs, rfl, _⟩ := h
    rfl
  · obtain ⟨N, o, n, ow, pc, ks, st, fs, rfl, r, q⟩ := h
    obtain ⟨dx, e1, nl⟩ := r.ins
    refine ⟨_, (pss_one (ps_if (pt_cmpR op_ne (pv 1) (pe_op op_sub (pe_mt0 m_many hr (by decide) (pv 0)) pe_int) (nomark _))
          (pss_one ps_never) pss_nil)), ?_⟩
    refine ⟨_, rfl, _, rfl, o, dx, fs, rfl, e1, nl _ (by decide), N, o, n, ow, pc, ks, st, fs, rfl, r, _, _, rfl, rfl, rfl, _, rfl, ?_⟩
    rw [decide_eq_true (by show V.int _ = V.int _; congr 1; omega)]
    exact iteF q
def spPut (C CL : Addr) : Sp := fun vs H Q _ => ∃ (N : Addr → Prop) (o : Addr) (ws : List Int) (ow pc : List Nat) (vl : List Int) (ks : List Nat) (st : Int) (j : Nat) (x : Int), vs = [.ref o, num ow.length, num j, .int x] ∧ RowA N H o C CL ws ow pc vl ks st ∧ ow.length ∈ ks ∧ ow.length < 63 ∧ ks.length ≤ 100 ∧ j < ws.length ∧ -big30 ≤ x ∧ x ≤ big30 ∧
  ∀ (H' : Hp) (N' : Addr → Prop), RowA N' H' o C CL ws (ow ++ [ow.length]) (pc ++ [j]) (vl ++ [x]) (ks ++ [ow.length + 1]) (st + ((1 : Nat) : Int)) → (∀ c u, ¬ N c → H c = some u → H' c = some u) → (∀ c, N' c → N c ∨ H c = none) → Q (num (ow.length + 1)) H'
theorem fn_put {f : Addr} {fd : FuncData} (T : Txt K mg) (OC : RowC K C) (c_is_worth : C8.Cal P w K mg base 2 "is_worth" spWorth []) (m_need_make : Met P w K mg base 2 C "need_make" (spNeedMk C CL) []) (m_need_place : Met P w K mg base 2 C "need_place" (spNeedPl C CL) []) (m_need_new : Met P w K mg base 2 C "need_new" (spNewL C CL) []) (m__row_need_room_for : Met P w K mg base 2 C "_row_need_room_for" (spRoom C CL) []) (m__row_put : Met P w K mg base 21 C "_row_put" (spRPutA C CL) [])
    (F : Fun K "put" "Rows.put" s_Rows_put f fd) : FnOk P w K mg base CX0 22 f fd ["self", "make", "place", "worth"] (spPut C CL) := by
  refine F.ok sc_Rows_put (fun vs H Q E h => ?_) (fun cdv A outer s H vs Q E hr h => ?_)
  · obtain ⟨N, o, ws, ow, pc, vl, ks, st, j, x, rfl, _⟩ := h
    rfl
  · obtain ⟨N, o, ws, ow, pc, vl, ks, st, j, x, rfl, r, hk, hlt, hks, hj, b1, b2, q⟩ := h
    obtain ⟨NB, fs, rb, sb⟩ := r.b
    obtain ⟨dx, e1, nl⟩ := rb.ins
    refine ⟨_, (pss_cons (ps_expr (pe_mt m_need_make hr (by decide) (pv 0) (pa_cons (pv 1) pa_nil)))
      (pss_cons (ps_expr (pe_mt m_need_place hr (by decide) (pv 0) (pa_cons (pv 2) pa_nil)))
      (pss_cons (ps_if (pt_not (pt_val (C8.pe_c c_is_worth hr (by decide) (by rfl) (pa_cons (pv 3) pa_nil))))
          (pss_one ps_never) pss_nil)
      (pss_cons (ps_expr (pe_mt m_need_new hr (by decide) (pv 0) (pa_cons (pv 1) pa_nil)))
      (pss_cons (ps_expr (pe_mt m__row_need_room_for hr (by decide) (pv 0) (pa_cons pe_int pa_nil)))
      (pss_one (ps_ret (pe_mt m__row_put hr (by decide) (pv 0) (pa_cons (pv 1) (pa_cons (pv 2) (pa_cons (pv 3) pa_nil))))))))))), ?_⟩
    refine ⟨_, rfl, o, dx, fs, rfl, e1, nl _ (by decide), _, rfl, NB, o, ws.length, ow, pc, ks, st, fs, ow.length, rfl, rb, Nat.le_refl _, hk, ?_⟩
    refine ⟨_, rfl, o, dx, fs, rfl, e1, nl _ (by decide), _, rfl, NB, o, ws.length, ow, pc, ks, st, fs, j, rfl, rb, hj, ?_⟩
    refine ⟨_, rfl, x, rfl, b1, b2, _, rfl, iteF ?_⟩
    refine ⟨_, rfl, o, dx, fs, rfl, e1, nl _ (by decide), _, rfl, NB, o, ws.length, ow, pc, ks, st, fs, rfl, rb, ?_⟩
    refine ⟨_, rfl, o, dx, fs, rfl, e1, nl _ (by decide), NB, o, ws.length, ow, pc, ks, st, fs, 1, rfl, rb, by omega, ?_⟩
    exact ⟨_, rfl, o, dx, fs, rfl, e1, nl _ (by decide), _, rfl, _, rfl, _, rfl, N, o, ws, ow, pc, vl, ks, st, j, x, rfl, r, hk, hlt, hks, hj, q⟩
theorem ns_put : NScope ["self", "make", "place", "worth", "__class__"] ["self", "make", "place", "worth"] ["__class__"] (defScope s_Lined_put) := nscope_by (by decide +kernel)
theorem ok_put {g : Addr} {fd : FuncData} (T : Txt K mg) (OC : RowC K C) (F : FnOk P w K mg base CX0 22 g fd ["self", "make", "place", "worth"] (spPut C CL)) (hb : Binds K fd ["self", "make", "place", "worth"] []) (S : SAt P K C "put" "Lined.put" s_Lined_put ["self", "make", "place", "worth"] g) : Met P w K mg base 23 C "put" (spPut C CL) [] := by
  obtain ⟨f, cc, c, oc, od, doc, pm, an, ct, osl, sup, lk, me, bi⟩ := S.ex
  refine ⟨f, _, _, [], OC.cl, me, ?_, bi, .nil⟩
  refine okS_ret sup lk ns_put rfl (fun vs H Q E h => ?_) rfl F hb (by rfl) (fun L => by rfl) (fun L => by rfl) (fun L => by rfl) ?_
  · obtain ⟨N, o, ws, ow, pc, vl, ks, st, j, x, rfl, _⟩ := h
    rfl
  · rintro A outer s H vs Q E hr ⟨N, o, ws, ow, pc, vl, ks, st, j, x, rfl, r, rest⟩
    obtain ⟨dx, fs, e1, nl⟩ := r.ins
    exact ⟨o, dx, fs, E0, _, rfl, e1, pass0, (pa_cons (pv 1) (pa_cons (pv 2) (pa_cons (pv 3) pa_nil))), _, rfl, _, rfl, _, rfl, N, o, ws, ow, pc, vl, ks, st, j, x, rfl, r, rest⟩
end
end K41
set_option maxHeartbeats 1000000
namespace K41
open PySem PySem.Spec PyProof.Rows L2 Gd Gs
open NdefX (NScope nscope_by ncx startF NF)
open C8 (clsBody Met pe_mt pe_mt0)
def os (n i k : Nat) : List Nat := (List.range k).map fun t => if t = 0 then i else n + t
/-- their numbers -/
def nums (n k : Nat) : List Nat := (List.range k).map fun t => n + 1 + t
/-- the make that the k-th is put on -/
def onM (n i k : Nat) : Nat := if k = 0 then i else n + k
theorem os_len (n i k : Nat) : (os n i k).length = k := by unfold os; rw [List.length_map, List.length_range]
theorem nums_len (n k : Nat) : (nums n k).length = k := by unfold nums; rw [List.length_map, List.length_range]
theorem os_succ (n i k : Nat) : os n i (k + 1) = os n i k ++ [onM n i k] := by
  unfold os onM
  rw [List.range_succ, List.map_append]
  rfl
theorem nums_succ (n k : Nat) : nums n (k + 1) = nums n k ++ [n + 1 + k] := by
  unfold nums
  rw [List.range_succ, List.map_append]
  rfl
theorem onM_succ (n i k : Nat) : onM n i (k + 1) = n + k + 1 := by
  unfold onM
  rw [if_neg (by omega)]
  omega
theorem nums_mem {n k x : Nat} (h : x ∈ nums n k) : n < x ∧ x ≤ n + k := by
  unfold nums at h
  obtain ⟨t, ht, rfl⟩ := List.mem_map.mp h
  have := List.mem_range.mp ht
  omega
theorem onM_mem {n i k : Nat} {ks : List Nat} (h : i ∈ ks) : onM n i k ∈ ks ++ nums n k := by
  unfold onM nums
  by_cases z : k = 0
  · rw [if_pos z]
    exact List.mem_append.mpr (.inl h)
  · rw [if_neg z]
    exact List.mem_append.mpr (.inr (List.mem_map.mpr ⟨k - 1, List.mem_range.mpr (by omega), by omega⟩))
theorem onM_le {n i k : Nat} (h : i ≤ n) : onM n i k ≤ n + k := by
  unfold onM
  split <;> omega
section
variable {P : Program} {w : World} {K : PySem.W.Frag} {mg : Str → Option Value} {base : Heap} {C CL : Addr}
def spCh : Sp := fun vs H Q _ => ∃ (t : Addr) (j n : Nat) (x : Int), vs = [.ref t, num n] ∧ H t = some (.tup [num j, .int x]) ∧ j < n ∧ -big30 ≤ x ∧ x ≤ big30 ∧ Q (.bl true) H
theorem ok_ch (T : Txt K mg) (c_is_whole : C8.Cal P w K mg base 1 "is_whole" spWhI []) (c_is_worth : C8.Cal P w K mg base 2 "is_worth" spWorth []) (D : DefAt K mg "_is_change" s__is_change ["thing", "size"]) : C8.Cal P w K mg base 3 "_is_change" spCh [] := by
  obtain ⟨f, fd, F, m, b⟩ := D.ex
  refine ⟨f, fd, _, [], F.ok sc__is_change (fun vs H Q E h => ?_) (fun cdv A outer s H vs Q E hr h => ?_), m, F.kp, b, .nil⟩
  · obtain ⟨t, j, n, x, rfl, _⟩ := h
    rfl
  · obtain ⟨t, j, n, x, rfl, ht, h1, h2, h3, q⟩ := h
    refine ⟨_, (pss_cons (ps_if (PW.pt (pw_or (pt_not (pt_val (pe_callB call_isi (by rfl) T.b_isinstance boot_isinstance_ (pa_cons (pv 0) (pa_cons (pe_bltn (v := .ty "tuple") (by rfl) T.t_tuple boot_tuple_ rfl) pa_nil))))) (pw_or1 (pt_cmpR op_ne (pe_callB call_len (by rfl) T.b_len boot_len_ (pa_cons (pv 0) pa_nil)) pe_int (nomark _)))))
          (pss_one (ps_ret pe_bl)) pss_nil)
      (pss_one (ps_ret (pe_and (C8.pe_c c_is_whole hr (by decide) (by rfl) (pa_cons (pe_ix ix_tup (pv 0) pe_int (fun _ _ => rfl)) (pa_cons pe_int (pa_cons (pe_op op_sub (pv 1) pe_int) pa_nil)))) (pe_one (C8.pe_c c_is_worth hr (by decide) (by rfl) (pa_cons (pe_ix ix_tup (pv 0) pe_int (fun _ _ => rfl)) pa_nil))))))), ?_⟩
    refine ⟨_, rfl, .ref t, .ty "tuple", _, .type "tuple", _, rfl, .ty _, tyT (SqT.of ht), kTup (.tuple []), _, rfl, iteF ?_⟩
    refine ⟨_, rfl, .ref t, _, rfl, .inr ⟨_, SqT.of ht, rfl⟩, rfl, _, rfl, iteF ?_⟩
    refine ⟨_, rfl, t, _, _, num j, rfl, rfl, SqT.of ht, rfl, _, rfl, _, _, rfl, rfl, (j : Nat), 0, (n : Nat) - 1, rfl, by omega, by omega, _, rfl, iteT ?_⟩
    exact ⟨_, rfl, t, _, _, .int x, rfl, rfl, SqT.of ht, rfl, x, rfl, h2, h3, q⟩
def spChs (tup : Bool) : Sp := fun vs H Q _ => ∃ (a : Addr) (xs : List V) (cs : List (Nat × Int)) (n : Nat), vs = [.ref a, num n] ∧ H a = some (if tup = true then .tup xs else .lst xs) ∧ ChX H xs cs ∧ cs.length ≤ 20 ∧ ChOk cs n ∧ ∀ H', Same H H' → Q (.bl true) H'
theorem ok_chs_false (T : Txt K mg) (c__is_change : C8.Cal P w K mg base 3 "_is_change" spCh []) (D : DefAt K mg "is_changes" s_is_changes ["thing", "size"]) : C8.Cal P w K mg base 4 "is_changes" (spChs false) [] := by
  obtain ⟨f, fd, F, m, b⟩ := D.ex
  refine ⟨f, fd, _, [], F.ok sc_is_changes (fun vs H Q E h => ?_) (fun cdv A outer s H vs Q E hr h => ?_), m, F.kp, b, .nil⟩
  · obtain ⟨a, xs, cs, n, rfl, _⟩ := h
    rfl
  · obtain ⟨a, xs, cs, n, rfl, ha, hx, h20, hok, q⟩ := h
    have hlen := hx.len
    refine ⟨_, (pss_cons (ps_if (PW.pt (pw_or (pt_not (pt_val (pe_callB call_isiT (by rfl) T.b_isinstance boot_isinstance_ (pa_cons (pv 0) (pa_cons (pe_tup (pa_cons (pe_bltn (v := .ty "list") (by rfl) T.t_list boot_list_ rfl) (pa_cons (pe_bltn (v := .ty "tuple") (by rfl) T.t_tuple boot_tuple_ rfl) pa_nil))) pa_nil))))) (pw_or1 (pt_cmpR op_gt (pe_callB call_len (by rfl) T.b_len boot_len_ (pa_cons (pv 0) pa_nil)) (pe_gi rfl T.g_MOST_CHANGES) (nomark _)))))
          (pss_one (ps_ret pe_bl)) pss_nil)
      (pss_one (ps_ret (pe_callB (cr_all rfl) (by rfl) T.b_all boot_all_ (pa_cons (pe_lc (own := [("change", 2)]) (g := gName 2) (tt := tYes) rfl sc_is_changes.nd (pi_list (pv 0)) (blkOk_by (own := [("change", 2)]) (N := ["thing", "size", "change"]) (sc := defScope s_is_changes) (by decide +kernel)) (fun _ _ _ _ _ => pg_name (i := 2) sc_is_changes.nd rfl (Or.inl rfl)) (fun _ _ _ _ _ => pts_nil) (fun _ _ _ _ _ => (C8.pe_c c__is_change hr (by decide) (by rfl) (pa_cons (pv 2) (pa_cons (pv 1) pa_nil))))) pa_nil))))), ?_⟩
    refine ⟨_, rfl, (by show 2 ≤ sizeLine; decide), fun p hp => ?_⟩
    have sm := same_new (o := .tup [.ty "list", .ty "tuple"]) hp
    have hp1 : (upd H p (.tup [.ty "list", .ty "tuple"])) p = some (.tup [.ty "list", .ty "tuple"]) := upd_same
    generalize upd H p (.tup [.ty "list", .ty "tuple"]) = H1 at *
    have a1 := sm _ _ ha
    refine ⟨_, p, _, _, _, true, rfl, hp1, .cons (.ty _) (.cons (.ty _) .nil), tyL (SqL.of a1), kSeq (.list []), _, rfl, iteF ?_⟩
    refine ⟨_, rfl, .ref a, _, rfl, .inl ⟨_, SqL.of a1, rfl⟩, _, _, rfl, rfl, _, rfl, ite2 (fun z => ?_) (fun _ => ?_)⟩
    · have := of_decide_eq_true z
      omega
    refine ⟨_, rfl, a, rfl, ⟨_, SqL.of a1⟩, fun D hD => ?_⟩
    refine lc_it (walk_list (xs := xs)) (fun i H' => Same H1 H' ∧ H' D = some (.lst (((cs.take i).map fun _ => true).map V.bl))) ⟨same_new hD, upd_same⟩ (fun i H' _ hP => SqL.of (hP.1 _ _ a1)) (fun i x H2 H3 hi hP hY => ?_) (fun H2 hP => ?_)
    · obtain ⟨s2, d2⟩ := hP
      obtain ⟨rfl, hxi⟩ := hY
      obtain ⟨c, t, hc, rfl, ht⟩ := hx.get hxi
      obtain ⟨b0, b1, b2⟩ := hok c (List.mem_of_getElem? hc)
      refine ⟨rfl, yesI ?_⟩
      refine ⟨_, rfl, _, rfl, t, c.1, n, c.2, rfl, s2 _ _ (sm _ _ ht), b0, b1, b2, _, d2, ?_, fun c u z => ?_, ?_⟩
      · rw [List.length_map, List.length_map, List.length_take]
        exact small1000 (by omega)
      · rw [upd_ne (ne_of_none z hD)]
        exact s2 _ _ z
      · rw [upd_same, List.take_add_one, hc]
        simp
    · obtain ⟨s2, d2⟩ := hP
      rw [hlen, List.take_length] at d2
      refine ⟨D, cs.map fun _ => true, rfl, SqL.of d2, ?_⟩
      rw [show (cs.map fun _ => true).all id = true from by simp]
      exact q H2 (sm.trans s2)
theorem ok_chs_true (T : Txt K mg) (c__is_change : C8.Cal P w K mg base 3 "_is_change" spCh []) (D : DefAt K mg "is_changes" s_is_changes ["thing", "size"]) : C8.Cal P w K mg base 4 "is_changes" (spChs true) [] := by
  obtain ⟨f, fd, F, m, b⟩ := D.ex
  refine ⟨f, fd, _, [], F.ok sc_is_changes (fun vs H Q E h => ?_) (fun cdv A outer s H vs Q E hr h => ?_), m, F.kp, b, .nil⟩
  · obtain ⟨a, xs, cs, n, rfl, _⟩ := h
    rfl
  · obtain ⟨a, xs, cs, n, rfl, ha, hx, h20, hok, q⟩ := h
    have hlen := hx.len
    refine ⟨_, (pss_cons (ps_if (PW.pt (pw_or (pt_not (pt_val (pe_callB call_isiT (by rfl) T.b_isinstance boot_isinstance_ (pa_cons (pv 0) (pa_cons (pe_tup (pa_cons (pe_bltn (v := .ty "list") (by rfl) T.t_list boot_list_ rfl) (pa_cons (pe_bltn (v := .ty "tuple") (by rfl) T.t_tuple boot_tuple_ rfl) pa_nil))) pa_nil))))) (pw_or1 (pt_cmpR op_gt (pe_callB call_len (by rfl) T.b_len boot_len_ (pa_cons (pv 0) pa_nil)) (pe_gi rfl T.g_MOST_CHANGES) (nomark _)))))
          (pss_one (ps_ret pe_bl)) pss_nil)
      (pss_one (ps_ret (pe_callB (cr_all rfl) (by rfl) T.b_all boot_all_ (pa_cons (pe_lc (own := [("change", 2)]) (g := gName 2) (tt := tYes) rfl sc_is_changes.nd (pi_tup (pv 0)) (blkOk_by (own := [("change", 2)]) (N := ["thing", "size", "change"]) (sc := defScope s_is_changes) (by decide +kernel)) (fun _ _ _ _ _ => pg_name (i := 2) sc_is_changes.nd rfl (Or.inl rfl)) (fun _ _ _ _ _ => pts_nil) (fun _ _ _ _ _ => (C8.pe_c c__is_change hr (by decide) (by rfl) (pa_cons (pv 2) (pa_cons (pv 1) pa_nil))))) pa_nil))))), ?_⟩
    refine ⟨_, rfl, (by show 2 ≤ sizeLine; decide), fun p hp => ?_⟩
    have sm := same_new (o := .tup [.ty "list", .ty "tuple"]) hp
    have hp1 : (upd H p (.tup [.ty "list", .ty "tuple"])) p = some (.tup [.ty "list", .ty "tuple"]) := upd_same
    generalize upd H p (.tup [.ty "list", .ty "tuple"]) = H1 at *
    have a1 := sm _ _ ha
    refine ⟨_, p, _, _, _, true, rfl, hp1, .cons (.ty _) (.cons (.ty _) .nil), tyT (SqT.of a1), kSeq (.tuple []), _, rfl, iteF ?_⟩
    refine ⟨_, rfl, .ref a, _, rfl, .inr ⟨_, SqT.of a1, rfl⟩, _, _, rfl, rfl, _, rfl, ite2 (fun z => ?_) (fun _ => ?_)⟩
    · have := of_decide_eq_true z
      omega
    refine ⟨_, rfl, a, rfl, ⟨_, SqT.of a1⟩, fun D hD => ?_⟩
    refine lc_it (walk_tup (xs := xs)) (fun i H' => Same H1 H' ∧ H' D = some (.lst (((cs.take i).map fun _ => true).map V.bl))) ⟨same_new hD, upd_same⟩ (fun i H' _ hP => SqT.of (hP.1 _ _ a1)) (fun i x H2 H3 hi hP hY => ?_) (fun H2 hP => ?_)
    · obtain ⟨s2, d2⟩ := hP
      obtain ⟨rfl, hxi⟩ := hY
      obtain ⟨c, t, hc, rfl, ht⟩ := hx.get hxi
      obtain ⟨b0, b1, b2⟩ := hok c (List.mem_of_getElem? hc)
      refine ⟨rfl, yesI ?_⟩
      refine ⟨_, rfl, _, rfl, t, c.1, n, c.2, rfl, s2 _ _ (sm _ _ ht), b0, b1, b2, _, d2, ?_, fun c u z => ?_, ?_⟩
      · rw [List.length_map, List.length_map, List.length_take]
        exact small1000 (by omega)
      · rw [upd_ne (ne_of_none z hD)]
        exact s2 _ _ z
      · rw [upd_same, List.take_add_one, hc]
        simp
    · obtain ⟨s2, d2⟩ := hP
      rw [hlen, List.take_length] at d2
      refine ⟨D, cs.map fun _ => true, rfl, SqL.of d2, ?_⟩
      rw [show (cs.map fun _ => true).all id = true from by simp]
      exact q H2 (sm.trans s2)
def spPutAll (C CL : Addr) (tup : Bool) : Sp := fun vs H Q _ => ∃ (N : Addr → Prop) (o ca : Addr) (ws : List Int) (ow pc : List Nat) (vl : List Int) (ks : List Nat) (st : Int) (xs : List V) (cs : List (Nat × Int)), vs = [.ref o, num ow.length, .ref ca] ∧ RowA N H o C CL ws ow pc vl ks st ∧ ow.length ∈ ks ∧ ks.length ≤ 64 ∧ H ca = some (if tup = true then .tup xs else .lst xs) ∧ ChX H xs cs ∧ ChOk cs ws.length ∧ cs.length ≤ 20 ∧ ow.length + 1 + cs.length ≤ 64 ∧ ¬ N ca ∧ (∀ (k : Nat) (t : Addr), xs[k]? = some (.ref t) → ¬ N t) ∧
  ∀ (a : Addr) (H' : Hp) (N' : Addr → Prop), H a = none → H' a = some (.lst ((nums ow.length cs.length).map num)) → RowA N' H' o C CL ws (ow ++ os ow.length ow.length cs.length) (pc ++ cs.map Prod.fst) (vl ++ cs.map Prod.snd) (ks ++ nums ow.length cs.length) (st + (cs.length : Nat)) → (∀ c u, ¬ N c → H c = some u → H' c = some u) → (∀ c, N' c → N c ∨ H c = none) → ¬ N' a → Q (.ref a) H'
theorem fn_putall {tup : Bool} {f : Addr} {fd : FuncData} (T : Txt K mg) (OC : RowC K C) (c_is_changes : C8.Cal P w K mg base 4 "is_changes" (spChs false) []) (m_need_make : Met P w K mg base 2 C "need_make" (spNeedMk C CL) []) (m_size : Met P w K mg base 1 C "size" (spSize C CL) []) (m_need_new : Met P w K mg base 2 C "need_new" (spNewL C CL) []) (m__row_need_room_for : Met P w K mg base 2 C "_row_need_room_for" (spRoom C CL) []) (m__row_put : Met P w K mg base 21 C "_row_put" (spRPutA C CL) [])
    (F : Fun K "put_all" "Rows.put_all" s_Rows_put_all f fd) : FnOk P w K mg base CX0 22 f fd ["self", "make", "changes"] (spPutAll C CL false) := by
  refine F.ok sc_Rows_put_all (fun vs H Q E h => ?_) (fun cdv A outer s H vs Q E hr h => ?_)
  · obtain ⟨N, o, ca, ws, ow, pc, vl, ks, st, xs, cs, rfl, _⟩ := h
    rfl
  · obtain ⟨N, o, ca, ws, ow, pc, vl, ks, st, xs, cs, rfl, r, hk, hks, hca, hx, hok, h20, h64, nca, nxt, q⟩ := h
    obtain ⟨NB, fs, rb, sb⟩ := r.b
    obtain ⟨dx, e1, nl⟩ := rb.ins
    have hlen := hx.len
    refine ⟨_, (pss_cons (ps_expr (pe_mt m_need_make hr (by decide) (pv 0) (pa_cons (pv 1) pa_nil)))
      (pss_cons (ps_if (pt_not (pt_val (C8.pe_c c_is_changes hr (by decide) (by rfl) (pa_cons (pv 2) (pa_cons (pe_mt0 m_size hr (by decide) (pv 0)) pa_nil)))))
          (pss_one ps_never) pss_nil)
      (pss_cons (ps_if (pt_not (pt_truth (pv 2) (fun _ => rfl)))
          (pss_one (ps_ret (pe_lst pa_nil))) pss_nil)
      (pss_cons (ps_expr (pe_mt m_need_new hr (by decide) (pv 0) (pa_cons (pv 1) pa_nil)))
      (pss_cons (ps_expr (pe_mt m__row_need_room_for hr (by decide) (pv 0) (pa_cons (pe_callB call_len (by rfl) T.b_len boot_len_ (pa_cons (pv 2) pa_nil)) pa_nil)))
      (pss_cons (ps_set (i := 3) sc_Rows_put_all.nd rfl (Or.inl rfl) (pe_lst pa_nil))
      (pss_cons (ps_set (i := 4) sc_Rows_put_all.nd rfl (Or.inl rfl) (pv 1))
      (pss_cons (ps_for PassesOwn.never rfl (pi_list (pv 2)) (pg_tup (by rfl) (pgs_cons (pg_name (i := 5) sc_Rows_put_all.nd rfl (Or.inl rfl)) (pgs_cons (pg_name (i := 6) sc_Rows_put_all.nd rfl (Or.inl rfl)) pgs_nil)))
          (pss_cons (ps_set (i := 4) sc_Rows_put_all.nd rfl (Or.inl rfl) (pe_mt m__row_put hr (by decide) (pv 0) (pa_cons (pv 4) (pa_cons (pv 5) (pa_cons (pv 6) pa_nil)))))
          (pss_one (ps_expr (pe_bm PySem.F.plainAttrs_list PySem.F.slot_list_append PySem.F.type_list_append mt_append (pv 3) (pa_cons (pv 4) pa_nil))))))
      (pss_one (ps_ret (pv 3))))))))))), ?_⟩
    refine ⟨_, rfl, o, dx, fs, rfl, e1, nl _ (by decide), _, rfl, NB, o, ws.length, ow, pc, ks, st, fs, ow.length, rfl, rb, Nat.le_refl _, hk, ?_⟩
    refine ⟨_, rfl, _, rfl, o, dx, fs, rfl, e1, nl _ (by decide), NB, o, ws.length, ow, pc, ks, st, fs, rfl, rb, ca, xs, cs, _, rfl, hca, hx, h20, hok, fun H1 s1 => ⟨_, rfl, iteF ?_⟩⟩
    have r1 := r.same s1
    have a1 := s1 _ _ hca
    refine ⟨_, rfl, !xs.isEmpty, .inl ⟨xs, SqL.of a1, rfl⟩, ?_⟩
    by_cases hz : cs = []
    · subst hz
      obtain rfl : xs = [] := List.eq_nil_of_length_eq_zero hlen
      refine iteT ⟨(by show 0 ≤ sizeLine; decide), fun a ha => ?_⟩
      have s2 := same_new (o := .lst []) ha
      refine q a _ N (none_of' s1 ha) upd_same ?_ (fun c u _ z => s2 _ _ (s1 _ _ z)) (fun c h => .inl h) (fun h => (r1.laid a h).ne ha)
      rw [show ow ++ os ow.length ow.length ([] : List (Nat × Int)).length = ow from List.append_nil _, show pc ++ ([] : List (Nat × Int)).map Prod.fst = pc from List.append_nil _, show vl ++ ([] : List (Nat × Int)).map Prod.snd = vl from List.append_nil _, show ks ++ nums ow.length ([] : List (Nat × Int)).length = ks from List.append_nil _, show st + ((([] : List (Nat × Int)).length : Nat) : Int) = st from Int.add_zero _]
      exact r1.same s2
    · have hne : xs.isEmpty = false := by
        cases xs with
        | nil => exact absurd (List.eq_nil_of_length_eq_zero hlen.symm) hz
        | cons x xs => rfl
      rw [hne]
      refine iteF ?_
      obtain ⟨NB1, fs1, rb1, sb1⟩ := r1.b
      obtain ⟨dx1, e11, nl1⟩ := rb1.ins
      refine ⟨_, rfl, o, dx1, fs1, rfl, e11, nl1 _ (by decide), _, rfl, NB1, o, ws.length, ow, pc, ks, st, fs1, rfl, rb1, ?_⟩
      refine ⟨_, rfl, o, dx1, fs1, rfl, e11, nl1 _ (by decide), _, rfl, .ref ca, _, rfl, .inl ⟨_, SqL.of a1, rfl⟩, NB1, o, ws.length, ow, pc, ks, st, fs1, xs.length, rfl, rb1, by omega, ?_⟩
      refine ⟨(by show 0 ≤ sizeLine; decide), fun L hL => ⟨_, rfl, ?_⟩⟩
      have s2 := same_new (o := .lst []) hL
      have eL : (upd H1 L (.lst [])) L = some (.lst []) := upd_same
      have nL : ca ≠ L := ne_of_none a1 hL
      have nNL : ¬ N L := fun h => (r1.laid L h).ne hL
      have r2 := r1.same s2
      generalize upd H1 L (.lst []) = H2 at *
      have s12 := s1.trans s2
      refine ⟨_, rfl, ca, rfl, ⟨_, SqL.of (s2 _ _ a1)⟩, ?_⟩
      refine for_list (K := K) (a := ca) (xs := xs) (fun k σ H' => ∃ (N' : Addr → Prop) (y5 y6 : Option V), σ = [some (.ref o), some (num ow.length), some (.ref ca), some (.ref L), some (num (onM ow.length ow.length k)), y5, y6] ∧ H' ca = some (.lst xs) ∧ H' L = some (.lst ((nums ow.length k).map num)) ∧ RowA N' H' o C CL ws (ow ++ os ow.length ow.length k) (pc ++ (cs.take k).map Prod.fst) (vl ++ (cs.take k).map Prod.snd) (ks ++ nums ow.length k) (st + (k : Nat)) ∧ (∀ c u, ¬ N c → H c = some u → H' c = some u) ∧ (∀ c, N' c → N c ∨ H c = none) ∧ ¬ N' L)
        ⟨N, none, none, rfl, s2 _ _ a1, eL, ?_, fun c u _ z => s12 _ _ z, fun c h => .inl h, nNL⟩ (fun k σ H' _ hP => ?_) (fun k x σ H3 hkx hP => ?_) (fun σ H3 hP => ?_)
      · rw [show ow ++ os ow.length ow.length 0 = ow from List.append_nil _, show pc ++ (cs.take 0).map Prod.fst = pc from List.append_nil _, show vl ++ (cs.take 0).map Prod.snd = vl from List.append_nil _, show ks ++ nums ow.length 0 = ks from List.append_nil _, show st + ((0 : Nat) : Int) = st from Int.add_zero _]
        exact r2
      · obtain ⟨N', y5, y6, rfl, eca, _⟩ := hP
        exact SqL.of eca
      · obtain ⟨N', y5, y6, rfl, eca, eL3, r3, k3, f3, nL3⟩ := hP
        obtain ⟨c, t, hc, rfl, ht⟩ := hx.get hkx
        have hk' : k < cs.length := by
          by_cases z : k < cs.length
          · exact z
          · rw [List.getElem?_eq_none (by omega)] at hc
            cases hc
        obtain ⟨b0, b1, b2⟩ := hok c (List.mem_of_getElem? hc)
        have ht3 := k3 _ _ (nxt k t hkx) ht
        obtain ⟨dx3, fs3, e3, nl3⟩ := r3.ins
        have hon : (ow ++ os ow.length ow.length k).length = onM ow.length ow.length k := by
          rw [List.length_append, os_len]
          unfold onM
          split <;> omega
        refine ⟨t, _, rfl, SqT.of ht3, rfl, _, _, rfl, _, _, rfl, rfl, ?_⟩
        refine ⟨_, rfl, o, dx3, fs3, rfl, e3, nl3 _ (by decide), _, rfl, _, rfl, _, rfl, N', o, ws, _, _, _, _, _, c.1, c.2, by rw [hon]; rfl, r3, by rw [hon]; exact onM_mem hk, by rw [List.length_append, os_len]; omega, by rw [List.length_append, nums_len]; omega, b0, fun H4 N4 r4 k4 f4 => ?_⟩
        have eL4 := k4 _ _ nL3 eL3
        refine ⟨_, rfl, .inl ⟨rfl, _, SqL.of eL4⟩, _, rfl, L, _, _, rfl, rfl, eL4, small1000 (by rw [List.length_map, nums_len]; omega), ?_⟩
        have en : (ow ++ os ow.length ow.length k).length + 1 = ow.length + 1 + k := by
          rw [List.length_append, os_len]
          omega
        rw [hon] at r4
        rw [en]
        have en4 : onM ow.length ow.length k + 1 = ow.length + 1 + k := by omega
        rw [en4] at r4
        have h1 : ow ++ os ow.length ow.length (k + 1) = (ow ++ os ow.length ow.length k) ++ [onM ow.length ow.length k] := by rw [os_succ, List.append_assoc]
        have h2 : pc ++ (cs.take (k + 1)).map Prod.fst = (pc ++ (cs.take k).map Prod.fst) ++ [c.1] := by
          rw [List.take_add_one, hc, List.map_append, List.append_assoc]
          rfl
        have h3 : vl ++ (cs.take (k + 1)).map Prod.snd = (vl ++ (cs.take k).map Prod.snd) ++ [c.2] := by
          rw [List.take_add_one, hc, List.map_append, List.append_assoc]
          rfl
        have h4 : ks ++ nums ow.length (k + 1) = (ks ++ nums ow.length k) ++ [ow.length + 1 + k] := by rw [nums_succ, List.append_assoc]
        have h5 : st + ((k + 1 : Nat) : Int) = st + (k : Nat) + ((1 : Nat) : Int) := by omega
        have nL4 : ¬ N4 L := fun h => (f4 L h).elim nL3 fun z => by rw [eL3] at z; cases z
        have nca' : ¬ N' ca := fun h => (f3 ca h).elim nca fun z => by rw [hca] at z; cases z
        have k5 : ∀ c u, c ≠ L → H4 c = some u → (upd H4 L (.lst ((nums ow.length k).map num ++ [num (ow.length + 1 + k)]))) c = some u := fun c u hc z => by
          rw [upd_ne hc]
          exact z
        have eL5 : (upd H4 L (.lst ((nums ow.length k).map num ++ [num (ow.length + 1 + k)]))) L = some (.lst ((nums ow.length (k + 1)).map num)) := by
          rw [upd_same, nums_succ, List.map_append]
          rfl
        have eo : num (ow.length + 1 + k) = num (onM ow.length ow.length (k + 1)) := by
          rw [onM_succ]
          congr 1
          omega
        have hL0 : H L = none := none_of' s1 hL
        refine ⟨N4, some (num c.1), some (.int c.2), ?_, k5 _ _ nL (k4 _ _ nca' eca), eL5, ?_, fun c u hc z => k5 _ _ (ne_of_none z hL0) (k4 _ _ (fun h => (f3 c h).elim hc fun y => by rw [y] at z; cases z) (k3 _ _ hc z)), fun c h => (f4 c h).elim (f3 c) fun z => ?_, nL4⟩
        · rw [← eo]
          rfl
        · rw [h1, h2, h3, h4, h5]
          exact r4.kp (fun c u hc z => k5 _ _ (fun e => nL4 (e ▸ hc)) z) fun c ys z => k5 _ _ (fun e => by rw [e, eL4] at z; cases z) z
        · by_cases hn : N c
          · exact .inl hn
          · right
            cases y : H c with
            | none => rfl
            | some u =>
              rw [k3 _ _ hn y] at z
              cases z
      · obtain ⟨N', y5, y6, rfl, eca, eL3, r3, k3, f3, nL3⟩ := hP
        rw [hlen] at eL3 r3
        rw [List.take_length] at r3
        exact ⟨_, rfl, q L H3 N' (none_of' s1 hL) eL3 r3 k3 f3 nL3⟩
theorem ns_putall : NScope ["self", "make", "changes", "__class__"] ["self", "make", "changes"] ["__class__"] (defScope s_Lined_put_all) := nscope_by (by decide +kernel)
theorem ok_putall {g : Addr} {fd : FuncData} (T : Txt K mg) (OC : RowC K C) (F : FnOk P w K mg base CX0 22 g fd ["self", "make", "changes"] (spPutAll C CL false)) (hb : Binds K fd ["self", "make", "changes"] []) (S : SAt P K C "put_all" "Lined.put_all" s_Lined_put_all ["self", "make", "changes"] g) : Met P w K mg base 23 C "put_all" (spPutAll C CL false) [] := by
  obtain ⟨f, cc, c, oc, od, doc, pm, an, ct, osl, sup, lk, me, bi⟩ := S.ex
  refine ⟨f, _, _, [], OC.cl, me, ?_, bi, .nil⟩
  refine okS_ret sup lk ns_putall rfl (fun vs H Q E h => ?_) rfl F hb (by rfl) (fun L => by rfl) (fun L => by rfl) (fun L => by rfl) ?_
  · obtain ⟨N, o, ca, ws, ow, pc, vl, ks, st, xs, cs, rfl, _⟩ := h
    rfl
  · rintro A outer s H vs Q E hr ⟨N, o, ca, ws, ow, pc, vl, ks, st, xs, cs, rfl, r, rest⟩
    obtain ⟨dx, fs, e1, nl⟩ := r.ins
    exact ⟨o, dx, fs, E0, _, rfl, e1, pass0, (pa_cons (pv 1) (pa_cons (pv 2) pa_nil)), _, rfl, _, rfl, N, o, ca, ws, ow, pc, vl, ks, st, xs, cs, rfl, r, rest⟩
end
end K41
set_option maxHeartbeats 1000000
namespace K41
open PySem PySem.Spec PyProof.Rows L2 Gd Gs
open NdefX (NScope nscope_by ncx startF NF)
open C8 (clsBody Met pe_mt pe_mt0)
theorem up_eq : ∀ {xs ys : List Nat}, xs.Pairwise (· < ·) → ys.Pairwise (· < ·) → (∀ a, a ∈ xs ↔ a ∈ ys) → xs = ys
  | [], [], _, _, _ => rfl
  | [], y :: ys, _, _, h => absurd ((h y).mpr (List.mem_cons_self ..)) List.not_mem_nil
  | x :: xs, [], _, _, h => absurd ((h x).mp (List.mem_cons_self ..)) List.not_mem_nil
  | x :: xs, y :: ys, hx, hy, h => by
    obtain ⟨x1, x2⟩ := List.pairwise_cons.mp hx
    obtain ⟨y1, y2⟩ := List.pairwise_cons.mp hy
    have e : x = y := by
      have a1 := (h x).mp (List.mem_cons_self ..)
      have a2 := (h y).mpr (List.mem_cons_self ..)
      rcases List.mem_cons.mp a1 with a1 | a1
      · exact a1
      rcases List.mem_cons.mp a2 with a2 | a2
      · exact a2.symm
      have b1 := y1 x a1
      have b2 := x1 y a2
      omega
    subst e
    rw [up_eq x2 y2 fun a => ?_]
    constructor
    · intro ha
      rcases List.mem_cons.mp ((h a).mp (List.mem_cons_of_mem _ ha)) with z | z
      · have := x1 a ha
        omega
      · exact z
    · intro ha
      rcases List.mem_cons.mp ((h a).mpr (List.mem_cons_of_mem _ ha)) with z | z
      · have := y1 a ha
        omega
      · exact z
/-- the writers that some kept make has at a place, rising -/
def bxS (ow pc ks : List Nat) (q : Nat) : List Nat := (List.range (ow.length + 1)).filter fun e => ks.any fun k => decide (wrt ow pc q 64 k = e)
def wv (ws vl : List Int) (q e : Nat) : Int := if e = 0 then ws.getD q 0 else vl.getD (e - 1) 0
/-- the turns of a place -/
def bxL (ws : List Int) (ow pc : List Nat) (vl : List Int) (ks : List Nat) (q : Nat) : List (Nat × Int) := (bxS ow pc ks q).map fun e => (e, wv ws vl q e)
theorem Bx.stands {ws : List Int} {ow pc : List Nat} {vl : List Int} {ks : List Nat} {q : Nat} {r : List (Nat × Int)} (b : Bx ws ow pc vl ks q r) : r.map Prod.fst = bxS ow pc ks q := by
  refine up_eq b.up (List.pairwise_lt_range.filter _) fun a => ?_
  unfold bxS
  rw [List.mem_filter, List.mem_range, List.any_eq_true]
  constructor
  · intro h
    obtain ⟨e, he, rfl⟩ := List.mem_map.mp h
    obtain ⟨k, hk, ek⟩ := b.only e he
    exact ⟨Nat.lt_succ_of_le (b.at_ e he).1, k, hk, decide_eq_true ek⟩
  · rintro ⟨_, k, hk, ek⟩
    rw [← of_decide_eq_true ek]
    exact b.all k hk
theorem Bx.eq {ws : List Int} {ow pc : List Nat} {vl : List Int} {ks : List Nat} {q : Nat} {r : List (Nat × Int)} (b : Bx ws ow pc vl ks q r) : r = bxL ws ow pc vl ks q := by
  unfold bxL
  rw [← b.stands, List.map_map]
  refine (List.map_id r).symm.trans (List.map_congr_left fun e he => ?_)
  exact Prod.ext rfl (b.at_ e he).2.2
/-- how many turns are looked at -/
def looks (ow pc ks : List Nat) (j i : Nat) : Nat := hvN (bxS ow pc ks j) i
def looksN (ow pc ks : List Nat) (i lo : Nat) : Nat → Nat
  | 0 => 0
  | n + 1 => looksN ow pc ks i lo n + looks ow pc ks (lo + n) i
section
variable {P : Program} {w : World} {K : PySem.W.Frag} {mg : Str → Option Value} {base : Heap} {C CL : Addr}
def spLook (C CL : Addr) : Sp := fun vs H Q _ => ∃ (N : Addr → Prop) (o : Addr) (ws : List Int) (ow pc : List Nat) (vl : List Int) (ks : List Nat) (st : Int) (i j : Nat), vs = [.ref o, num i, num j] ∧ RowA N H o C CL ws ow pc vl ks st ∧ i ≤ ow.length ∧ i ∈ ks ∧ j < ws.length ∧
  ∀ (H' : Hp), RowA N H' o C CL ws ow pc vl ks (st + (looks ow pc ks j i : Nat)) → (∀ c u, c ≠ o → H c = some u → H' c = some u) → Q (.int (val ws ow pc vl j i)) H'
theorem ok_look (T : Txt K mg) (OC : RowC K C) (c_found_by_halving : C8.Cal P w K mg base 1 "found_by_halving" spHalf []) (m_add_steps : Met P w K mg base 1 C "add_steps" (spAdd C CL) []) (M : MAt K C "looked" "Lined.looked" s_Lined_looked ["self", "make", "place"]) : Met P w K mg base 5 C "looked" (spLook C CL) [] := by
  refine M.met OC.cl sc_Lined_looked (fun vs H Q E h => ?_) (fun f cdv A outer s H vs Q E hr h => ?_)
  · obtain ⟨N, o, ws, ow, pc, vl, ks, st, i, j, rfl, _⟩ := h
    rfl
  · obtain ⟨N, o, ws, ow, pc, vl, ks, st, i, j, rfl, r, hi, hk, hj, q⟩ := h
    have ft := r.fit
    have few := ft.few
    obtain ⟨NB, Ne, fs, rb, xt, sb, se, dj⟩ := r.ex
    obtain ⟨dx, e1, nl⟩ := rb.ins
    obtain ⟨⟨d, bs, rs, l, ed, nd, h1, h2, h3, h4, h5, h6, h7⟩, lin⟩ := id xt
    obtain ⟨b, hb⟩ : ∃ b, bs[j]? = some b := ⟨bs[j], List.getElem?_eq_getElem (by omega)⟩
    obtain ⟨rr, hrr⟩ : ∃ rr, rs[j]? = some rr := ⟨rs[j], List.getElem?_eq_getElem (by omega)⟩
    obtain ⟨xs, eb, cx⟩ := h6 j b rr hb hrr
    have bx := h7 j rr hrr
    obtain ⟨hl1, e, he, hw, hv⟩ := bx.found lin few ft.low hk hi
    have hln := bx.len
    refine ⟨_, (pss_cons (ps_set (i := 3) sc_Lined_looked.nd rfl (Or.inl rfl) (pe_ix ix_list (pe_fld (pv 0) rfl) (pv 2) (fun _ _ => rfl)))
      (pss_cons (ps_asg (C8.pe_c c_found_by_halving hr (by decide) (by rfl) (pa_cons (pe_lc (own := [("turn", 6)]) (g := gName 6) (tt := tYes) rfl sc_Lined_looked.nd (pi_list (pv 3)) (blkOk_by (own := [("turn", 6)]) (N := ["self", "make", "place", "box", "at", "steps", "turn"]) (sc := defScope s_Lined_looked) (by decide +kernel)) (fun _ _ _ _ _ => pg_name (i := 6) sc_Lined_looked.nd rfl (Or.inl rfl)) (fun _ _ _ _ _ => pts_nil) (fun _ _ _ _ _ => (pe_ix (show IxR _ (rIxT K) from ix_tup) (pv 6) pe_int (fun _ _ => rfl)))) (pa_cons (pv 1) pa_nil))) (pg_tup (by rfl) (pgs_cons (pg_name (i := 4) sc_Lined_looked.nd rfl (Or.inl rfl)) (pgs_cons (pg_name (i := 5) sc_Lined_looked.nd rfl (Or.inl rfl)) pgs_nil))))
      (pss_cons (ps_expr (pe_mt m_add_steps hr (by decide) (pv 0) (pa_cons (pv 5) pa_nil)))
      (pss_one (ps_ret (pe_ix ix_tup (pe_ix ix_list (pv 3) (pv 4) (fun _ _ => rfl)) pe_int (fun _ _ => rfl))))))), ?_⟩
    refine ⟨_, rfl, o, C, dx, fs, .ref d, rfl, e1, OC.cl, OC.n_boxes, l, _, rfl, d, _, _, .ref b, rfl, rfl, SqL.of ed, atI_nat (by rw [List.getElem?_map, hb]; rfl), ?_⟩
    refine ⟨_, rfl, b, rfl, ⟨_, SqL.of eb⟩, fun B hB => ?_⟩
    refine lc_it (walk_list (xs := xs)) (fun k H' => Same H H' ∧ H' B = some (.lst (((rr.map Prod.fst).take k).map num))) ⟨same_new hB, upd_same⟩ (fun k H' _ hP => SqL.of (hP.1 _ _ eb)) (fun k v H2 H3 hk2 hP hY => ?_) (fun H2 hP => ?_)
    · obtain ⟨s2, eB⟩ := hP
      obtain ⟨rfl, hki⟩ := hY
      obtain ⟨c, t, hc, rfl, ht⟩ := cx.get hki
      refine ⟨rfl, yesI ?_⟩
      refine ⟨_, rfl, t, _, 0, _, rfl, rfl, SqT.of (s2 _ _ ht), rfl, ?_⟩
      refine ⟨_, eB, ?_, fun c u z => ?_, ?_⟩
      · rw [List.length_map, List.length_take]
        exact small1000 (by rw [List.length_map]; omega)
      · rw [upd_ne (ne_of_none z hB)]
        exact s2 _ _ z
      · rw [upd_same, List.take_add_one, List.getElem?_map, hc, List.map_append]
        rfl
    · obtain ⟨s2, eB⟩ := hP
      rw [cx.len, show (rr.map Prod.fst).take rr.length = rr.map Prod.fst from List.take_of_length_le (by rw [List.length_map]; exact Nat.le_refl _)] at eB
      refine ⟨_, rfl, B, rr.map Prod.fst, i, rfl, eB, by rw [List.length_map]; exact hl1, by rw [List.length_map]; omega, fun t H3 ht et s3 => ?_⟩
      refine ⟨t, _, rfl, SqT.of et, rfl, _, _, rfl, _, _, rfl, rfl, ?_⟩
      have s23 := s2.trans s3
      have r3 := rb.same s23
      refine ⟨_, rfl, o, dx, fs, rfl, s23 _ _ e1, nl _ (by decide), _, rfl, NB, o, ws.length, ow, pc, ks, st, fs, _, rfl, r3, fun H4 r4 k4 => ?_⟩
      have kt4 : KT H3 H4 := fun c ys z => k4 _ _ (fun e => by rw [e, s23 _ _ e1] at z; cases z) z
      have x4 := (xt.kp (fun c u _ z => s23 _ _ z) (KT.of s23)).kp (H' := H4) (fun c u hc z => k4 _ _ (fun e => dj o rb.own (e ▸ hc)) z) kt4
      have hl5 : (putF "_row_steps" (.int (st + (hvN (rr.map Prod.fst) i : Nat))) fs).lookup ("_boxes" : Str) = fs.lookup ("_boxes" : Str) := by rw [lookup_putF, if_neg (by decide)]
      have bo : b ≠ o := fun z => by rw [z, e1] at eb; cases eb
      obtain ⟨ct, hct, hcc⟩ := cx.at_ _ e he
      have cto : ct ≠ o := fun z => by rw [z, e1] at hcc; cases hcc
      rw [bx.stands] at r4 hl5 hct
      refine ⟨_, rfl, _, rfl, b, _, _, .ref ct, rfl, rfl, SqL.of (k4 _ _ bo (s23 _ _ eb)), atI_nat (by rw [bx.stands]; exact hct), ct, _, 1, _, rfl, rfl, SqT.of (k4 _ _ cto (s23 _ _ hcc)), rfl, ?_⟩
      rw [hv]
      exact q H4 ⟨⟨NB, Ne, _, r4, x4.fld hl5, sb, se, dj⟩, r.lv, fun c h => by
        by_cases y : c = o
        · obtain ⟨dx4, e4, _⟩ := r4.ins
          rw [y]
          exact .ins e4
        · exact (r.laid c h).kp fun u z => k4 _ _ y (s23 _ _ z)⟩ fun c u hc z => k4 _ _ hc (s23 _ _ z)
def spWin (C CL : Addr) : Sp := fun vs H Q _ => ∃ (N : Addr → Prop) (o : Addr) (ws : List Int) (ow pc : List Nat) (vl : List Int) (ks : List Nat) (st : Int) (i lo hi : Nat), vs = [.ref o, num i, num lo, num hi] ∧ RowA N H o C CL ws ow pc vl ks st ∧ i ≤ ow.length ∧ i ∈ ks ∧ lo ≤ hi ∧ hi ≤ ws.length ∧
  ∀ (a : Addr) (H' : Hp), H a = none → H' a = some (.lst ((List.range (hi - lo)).map fun k => V.int (val ws ow pc vl (lo + k) i))) → RowA N H' o C CL ws ow pc vl ks (st + (looksN ow pc ks i lo (hi - lo) : Nat)) → (∀ c u, c ≠ o → H c = some u → H' c = some u) → Q (.ref a) H'
theorem ok_win (T : Txt K mg) (OC : RowC K C) (m_looked : Met P w K mg base 5 C "looked" (spLook C CL) []) (M : MAt K C "worths_in" "Rows.worths_in" s_Rows_worths_in ["self", "make", "low", "high"]) : Met P w K mg base 6 C "worths_in" (spWin C CL) [] := by
  refine M.met OC.cl sc_Rows_worths_in (fun vs H Q E h => ?_) (fun f cdv A outer s H vs Q E hr h => ?_)
  · obtain ⟨N, o, ws, ow, pc, vl, ks, st, i, lo, hi, rfl, _⟩ := h
    rfl
  · obtain ⟨N, o, ws, ow, pc, vl, ks, st, i, lo, hi, rfl, r, hi', hik, h1, h2, q⟩ := h
    obtain ⟨dx, fs, e1, nl⟩ := r.ins
    have := r.fit.sz
    refine ⟨_, (pss_one (ps_ret (pe_lc (own := [("place", 4)]) (g := gName 4) (tt := tYes) rfl sc_Rows_worths_in.nd (pi_range2 rfl T.b_range (pa_cons (pv 2) (pa_cons (pv 3) pa_nil))) (blkOk_by (own := [("place", 4)]) (N := ["self", "make", "low", "high", "place"]) (sc := defScope s_Rows_worths_in) (by decide +kernel)) (fun _ _ _ _ _ => pg_name (i := 4) sc_Rows_worths_in.nd rfl (Or.inl rfl)) (fun _ _ _ _ _ => pts_nil) (fun _ _ _ _ _ => (pe_mt m_looked hr (by decide) (pv 0) (pa_cons (pv 1) (pa_cons (pv 4) pa_nil))))))), ?_⟩
    refine ⟨_, rfl, _, rfl, _, _, rfl, ⟨by omega, by omega, by omega, by omega⟩, fun B hB => ?_⟩
    have en : (((hi : Nat) : Int) - ((lo : Nat) : Int)).toNat = hi - lo := by omega
    rw [en]
    have oB : o ≠ B := ne_of_none e1 hB
    refine lc_it (walk_range (lo := ((lo : Nat) : Int)) (n := hi - lo)) (fun k H' => H' B = some (.lst ((List.range k).map fun k => V.int (val ws ow pc vl (lo + k) i))) ∧ RowA N H' o C CL ws ow pc vl ks (st + (looksN ow pc ks i lo k : Nat)) ∧ (∀ c u, c ≠ o → H c = some u → H' c = some u)) ⟨upd_same, by rw [show st + ((looksN ow pc ks i lo 0 : Nat) : Int) = st from Int.add_zero _]; exact r.same (same_new hB), fun c u _ z => same_new hB _ _ z⟩ (fun k H' _ hP => trivial) (fun k v H5 H6 hk hP hY => ?_) (fun H5 hP => ?_)
    · obtain ⟨eB, r5, k5⟩ := hP
      obtain ⟨rfl, rfl⟩ := hY
      obtain ⟨dx5, fs5, e5, nl5⟩ := r5.ins
      refine ⟨rfl, yesI ?_⟩
      refine ⟨_, rfl, o, dx5, fs5, rfl, e5, nl5 _ (by decide), _, rfl, _, rfl, _, o, ws, ow, pc, vl, ks, _, i, lo + k, rfl, r5, hi', hik, by omega, fun H7 r7 k7 => ?_⟩
      rw [show st + ((looksN ow pc ks i lo k : Nat) : Int) + ((looks ow pc ks (lo + k) i : Nat) : Int) = st + ((looksN ow pc ks i lo (k + 1) : Nat) : Int) from by rw [Int.add_assoc]; rfl] at r7
      refine ⟨_, k7 _ _ oB.symm eB, ?_, ?_, r7.kp (fun c u hc z => ?_) (fun c ys z => ?_), fun c u hc z => ?_⟩
      · rw [List.length_map, List.length_range]
        exact Nat.lt_of_lt_of_le (show k < 1000 by omega) (Gd.line_le (by decide))
      · rw [upd_same, List.range_succ, List.map_append]
        rfl
      · rw [upd_ne (fun e => (r.laid c hc).ne (by rw [e]; exact hB))]
        exact z
      · rw [upd_ne (fun e => by rw [e, k7 _ _ oB.symm eB] at z; cases z)]
        exact z
      · rw [upd_ne (ne_of_none z hB)]
        exact k7 _ _ hc (k5 _ _ hc z)
    · obtain ⟨eB, r5, k5⟩ := hP
      exact q B H5 hB eB r5 k5
end
end K41
set_option maxHeartbeats 1000000
namespace K41
open PySem PySem.Spec PyProof.Rows L2 Gd Gs
open NdefX (NScope nscope_by ncx startF NF)
open C8 (clsBody Met pe_mt pe_mt0)
section
variable {P : Program} {w : World} {K : PySem.W.Frag} {mg : Str → Option Value} {base : Heap} {C CL : Addr}
def spAt (C CL : Addr) : Sp := fun vs H Q _ => ∃ (N : Addr → Prop) (o : Addr) (ws : List Int) (ow pc : List Nat) (vl : List Int) (ks : List Nat) (st : Int) (i j : Nat), vs = [.ref o, num i, num j] ∧ RowA N H o C CL ws ow pc vl ks st ∧ i ≤ ow.length ∧ i ∈ ks ∧ j < ws.length ∧
  ∀ (H' : Hp), RowA N H' o C CL ws ow pc vl ks (st + (looks ow pc ks j i : Nat)) → (∀ c u, c ≠ o → H c = some u → H' c = some u) → Q (.int (val ws ow pc vl j i)) H'
theorem ok_at (T : Txt K mg) (OC : RowC K C) (m_need_make : Met P w K mg base 2 C "need_make" (spNeedMk C CL) []) (m_need_place : Met P w K mg base 2 C "need_place" (spNeedPl C CL) []) (m_worths_in : Met P w K mg base 6 C "worths_in" (spWin C CL) []) (M : MAt K C "at" "Rows.at" s_Rows_at ["self", "make", "place"]) : Met P w K mg base 7 C "at" (spAt C CL) [] := by
  refine M.met OC.cl sc_Rows_at (fun vs H Q E h => ?_) (fun f cdv A outer s H vs Q E hr h => ?_)
  · obtain ⟨N, o, ws, ow, pc, vl, ks, st, i, j, rfl, _⟩ := h
    rfl
  · obtain ⟨N, o, ws, ow, pc, vl, ks, st, i, j, rfl, r, hi, hk, hj, q⟩ := h
    obtain ⟨NB, fs, rb, sb⟩ := r.b
    obtain ⟨dx, e1, nl⟩ := rb.ins
    refine ⟨_, (pss_cons (ps_expr (pe_mt m_need_make hr (by decide) (pv 0) (pa_cons (pv 1) pa_nil)))
      (pss_cons (ps_expr (pe_mt m_need_place hr (by decide) (pv 0) (pa_cons (pv 2) pa_nil)))
      (pss_one (ps_ret (pe_ix ix_list (pe_mt m_worths_in hr (by decide) (pv 0) (pa_cons (pv 1) (pa_cons (pv 2) (pa_cons (pe_op op_add (pv 2) pe_int) pa_nil)))) pe_int (fun _ _ => rfl)))))), ?_⟩
    refine ⟨_, rfl, o, dx, fs, rfl, e1, nl _ (by decide), _, rfl, NB, o, ws.length, ow, pc, ks, st, fs, i, rfl, rb, hi, hk, ?_⟩
    refine ⟨_, rfl, o, dx, fs, rfl, e1, nl _ (by decide), _, rfl, NB, o, ws.length, ow, pc, ks, st, fs, j, rfl, rb, hj, ?_⟩
    refine ⟨_, rfl, o, dx, fs, rfl, e1, nl _ (by decide), _, rfl, _, rfl, _, rfl, _, _, rfl, rfl, N, o, ws, ow, pc, vl, ks, st, i, j, j + 1, rfl, r, hi, hk, by omega, by omega, fun a H1 ha ea r1 k1 => ?_⟩
    rw [Nat.add_sub_cancel_left] at ea r1
    rw [show looksN ow pc ks i j 1 = looks ow pc ks j i from Nat.zero_add _] at r1
    exact ⟨a, _, _, _, rfl, rfl, SqL.of ea, rfl, q H1 r1 k1⟩
def rowV (ws : List Int) (ow pc : List Nat) (vl : List Int) (i : Nat) : List Int := (List.range ws.length).map fun k => val ws ow pc vl k i
def spRow (C CL : Addr) : Sp := fun vs H Q _ => ∃ (N : Addr → Prop) (o : Addr) (ws : List Int) (ow pc : List Nat) (vl : List Int) (ks : List Nat) (st : Int) (i : Nat), vs = [.ref o, num i] ∧ RowA N H o C CL ws ow pc vl ks st ∧ i ≤ ow.length ∧ i ∈ ks ∧
  ∀ (a : Addr) (H' : Hp), H a = none → H' a = some (.lst ((rowV ws ow pc vl i).map V.int)) → RowA N H' o C CL ws ow pc vl ks (st + (looksN ow pc ks i 0 ws.length : Nat)) → (∀ c u, c ≠ o → H c = some u → H' c = some u) → Q (.ref a) H'
theorem ok_row (T : Txt K mg) (OC : RowC K C) (m_need_make : Met P w K mg base 2 C "need_make" (spNeedMk C CL) []) (m_size : Met P w K mg base 1 C "size" (spSize C CL) []) (m_worths_in : Met P w K mg base 6 C "worths_in" (spWin C CL) []) (M : MAt K C "row" "Rows.row" s_Rows_row ["self", "make"]) : Met P w K mg base 7 C "row" (spRow C CL) [] := by
  refine M.met OC.cl sc_Rows_row (fun vs H Q E h => ?_) (fun f cdv A outer s H vs Q E hr h => ?_)
  · obtain ⟨N, o, ws, ow, pc, vl, ks, st, i, rfl, _⟩ := h
    rfl
  · obtain ⟨N, o, ws, ow, pc, vl, ks, st, i, rfl, r, hi, hk, q⟩ := h
    obtain ⟨NB, fs, rb, sb⟩ := r.b
    obtain ⟨dx, e1, nl⟩ := rb.ins
    refine ⟨_, (pss_cons (ps_expr (pe_mt m_need_make hr (by decide) (pv 0) (pa_cons (pv 1) pa_nil)))
      (pss_one (ps_ret (pe_callTy call_list_of (by rfl) T.t_list boot_list_ (pa_cons (pe_mt m_worths_in hr (by decide) (pv 0) (pa_cons (pv 1) (pa_cons pe_int (pa_cons (pe_mt0 m_size hr (by decide) (pv 0)) pa_nil)))) pa_nil))))), ?_⟩
    refine ⟨_, rfl, o, dx, fs, rfl, e1, nl _ (by decide), _, rfl, NB, o, ws.length, ow, pc, ks, st, fs, i, rfl, rb, hi, hk, ?_⟩
    refine ⟨_, rfl, o, dx, fs, rfl, e1, nl _ (by decide), _, rfl, _, rfl, o, dx, fs, rfl, e1, nl _ (by decide), NB, o, ws.length, ow, pc, ks, st, fs, rfl, rb, N, o, ws, ow, pc, vl, ks, st, i, 0, ws.length, rfl, r, hi, hk, Nat.zero_le _, Nat.le_refl _, fun a H1 ha ea r1 k1 => ?_⟩
    refine ⟨a, _, rfl, .inl (SqL.of ea), fun b hb => ?_⟩
    have s2 : Same H1 (upd H1 b (.lst ((List.range (ws.length - 0)).map fun k => V.int (val ws ow pc vl (0 + k) i)))) := same_new hb
    have hb0 : H b = none := by
      cases z : H b with
      | none => rfl
      | some u =>
        obtain ⟨dx1, fs1, f1, _⟩ := r1.ins
        have bo : b ≠ o := fun e => by rw [e, f1] at hb; cases hb
        rw [k1 _ _ bo z] at hb
        cases hb
    refine q b _ hb0 ?_ (r1.same s2) fun c u hc z => s2 _ _ (k1 _ _ hc z)
    rw [upd_same, Nat.sub_zero]
    unfold rowV
    rw [List.map_map]
    congr 2
    refine List.map_congr_left fun k _ => ?_
    rw [Nat.zero_add]
    rfl
end
end K41
set_option maxHeartbeats 1000000
namespace K41
open PySem PySem.Spec PyProof.Rows L2 Gd Gs
open NdefX (NScope nscope_by ncx startF NF)
open C8 (clsBody Met pe_mt pe_mt0)
theorem mem_free {ow pc ks : List Nat} {i n : Nat} {x : Nat × Nat} (h : x ∈ freeL ow pc ks i n) : x.1 < n ∧ x.2 = wrt ow pc x.1 64 i ∧ ∀ k, k ∈ ks → wrt ow pc x.1 64 k ≠ wrt ow pc x.1 64 i := by
  obtain ⟨q, hq, rfl⟩ := List.mem_map.mp h
  obtain ⟨h1, h2⟩ := List.mem_filter.mp hq
  exact ⟨List.mem_range.mp h1, rfl, fun k hk => of_decide_eq_true (List.all_eq_true.mp h2 k hk)⟩
theorem free_mem {ow pc ks : List Nat} {i n q : Nat} (h : q < n) (h2 : ∀ k, k ∈ ks → wrt ow pc q 64 k ≠ wrt ow pc q 64 i) : (q, wrt ow pc q 64 i) ∈ freeL ow pc ks i n :=
  List.mem_map.mpr ⟨q, List.mem_filter.mpr ⟨List.mem_range.mpr h, List.all_eq_true.mpr fun k hk => decide_eq_true (h2 k hk)⟩, rfl⟩
theorem map_erase (ks : List Nat) (i : Nat) : ((ks.map fun k : Nat => (k : Int)).erase (i : Int)) = (ks.erase i).map fun k : Nat => (k : Int) := by
  induction ks with
  | nil => rfl
  | cons k ks ih =>
    rw [List.map_cons, List.erase_cons, List.erase_cons]
    by_cases z : k = i
    · rw [if_pos (by simp [z]), if_pos (by simp [z])]
    · have z2 : ¬ ((k : Int) = (i : Int)) := by omega
      rw [if_neg (by simpa using z2), if_neg (by simpa using z), List.map_cons, ih]
theorem num_map (ks : List Nat) : ks.map num = (ks.map fun k : Nat => (k : Int)).map V.int := by
  rw [List.map_map]
  rfl
theorem free_rise (ow pc ks : List Nat) (i n : Nat) : (freeL ow pc ks i n).Pairwise fun a b => a.1 < b.1 := by
  unfold freeL
  exact List.Pairwise.map _ (fun a b z => z) (List.Pairwise.sublist (List.filter_sublist ..) List.pairwise_lt_range)
theorem rise_take {fl : List (Nat × Nat)} (h : fl.Pairwise fun a b => a.1 < b.1) {k : Nat} {p : Nat × Nat} (e : fl[k]? = some p) : ∀ x, x ∈ fl.take k → x.1 < p.1 := fun x hx => by
  obtain ⟨j, hj, rfl⟩ := List.mem_iff_getElem.mp hx
  rw [List.getElem_take]
  rw [List.length_take] at hj
  obtain ⟨hk, rfl⟩ := List.getElem?_eq_some_iff.mp e
  exact List.pairwise_iff_getElem.mp h j k _ _ (by omega)
theorem PrX.get {H : Hp} {xs : List V} {ps : List (Nat × Nat)} (r : PrX H xs ps) {i : Nat} {x : V} (e : xs[i]? = some x) : ∃ p t, ps[i]? = some p ∧ x = .ref t ∧ H t = some (.tup [num p.1, num p.2]) := by
  have hi : i < ps.length := by
    by_cases z : i < ps.length
    · exact z
    · rw [List.getElem?_eq_none (by rw [r.len]; omega)] at e
      cases e
  obtain ⟨t, t1, t2⟩ := r.at_ i _ (List.getElem?_eq_getElem hi)
  rw [t1] at e
  cases e
  exact ⟨_, t, List.getElem?_eq_getElem hi, rfl, t2⟩
theorem PrX.kp {H H' : Hp} {xs : List V} {ps : List (Nat × Nat)} (r : PrX H xs ps) (k : ∀ c ys, H c = some (.tup ys) → H' c = some (.tup ys)) : PrX H' xs ps := ⟨r.len, fun i p e => by
  obtain ⟨t, t1, t2⟩ := r.at_ i p e
  exact ⟨t, t1, k _ _ t2⟩⟩
/-- a box without some writes -/
def outB (fl : List (Nat × Nat)) (q : Nat) (r : List (Nat × Int)) : List (Nat × Int) := r.filter fun e => !(fl.any fun p => decide (p = (q, e.1)))
theorem outB_nil (q : Nat) (r : List (Nat × Int)) : outB [] q r = r := List.filter_eq_self.mpr fun _ _ => rfl
theorem outB_snoc (fl : List (Nat × Nat)) (p : Nat × Nat) (q : Nat) (r : List (Nat × Int)) : outB (fl ++ [p]) q r = if q = p.1 then (outB fl q r).filter (fun e => decide (e.1 ≠ p.2)) else outB fl q r := by
  unfold outB
  by_cases h : q = p.1
  · rw [if_pos h, List.filter_filter]
    refine List.filter_congr fun e _ => ?_
    rw [List.any_append]
    have : ([p].any fun p => decide (p = (q, e.1))) = decide (e.1 = p.2) := by
      show (decide (p = (q, e.1)) || false) = _
      rw [Bool.or_false, decide_eq_decide]
      constructor
      · intro z
        rw [z]
      · intro z
        rw [z, h]
    rw [this]
    by_cases y : e.1 = p.2
    · simp [y]
    · simp [y]
  · rw [if_neg h]
    refine List.filter_congr fun e _ => ?_
    rw [List.any_append]
    have : ([p].any fun p => decide (p = (q, e.1))) = false := by
      show (decide (p = (q, e.1)) || false) = _
      rw [Bool.or_false, decide_eq_false]
      intro z
      rw [z] at h
      exact h rfl
    rw [this, Bool.or_false]
theorem Bx.go {ws : List Int} {ow pc : List Nat} {vl : List Int} {ks : List Nat} {q n i : Nat} {r : List (Nat × Int)} (b : Bx ws ow pc vl ks q r) (hq : q < n) : Bx ws ow pc vl (ks.erase i) q (outB (freeL ow pc (ks.erase i) i n) q r) := by
  have ht : ∀ e, e ∈ outB (freeL ow pc (ks.erase i) i n) q r → e ∈ r ∧ (q, e.1) ∉ freeL ow pc (ks.erase i) i n := fun e he => by
    obtain ⟨h1, h2⟩ := List.mem_filter.mp he
    refine ⟨h1, fun z => ?_⟩
    have : (freeL ow pc (ks.erase i) i n).any (fun p => decide (p = (q, e.1))) = true := List.any_eq_true.mpr ⟨_, z, decide_eq_true rfl⟩
    rw [this] at h2
    cases h2
  refine ⟨b.up.sublist ((List.filter_sublist).map _), fun e he => b.at_ e (ht e he).1, fun k hk => ?_, fun e he => ?_⟩
  · obtain ⟨e, he, ee⟩ := List.mem_map.mp (b.all k (List.mem_of_mem_erase hk))
    refine List.mem_map.mpr ⟨e, List.mem_filter.mpr ⟨he, ?_⟩, ee⟩
    cases z : (freeL ow pc (ks.erase i) i n).any (fun p => decide (p = (q, e.1))) with
    | false => rfl
    | true =>
      obtain ⟨p, hp, e2⟩ := List.any_eq_true.mp z
      have e2 := of_decide_eq_true e2
      subst e2
      obtain ⟨_, h2, h3⟩ := mem_free hp
      exact absurd (ee.symm.trans h2) (h3 k hk)
  · obtain ⟨h1, h2⟩ := ht e he
    obtain ⟨k, hk, ek⟩ := b.only e h1
    by_cases ki : k = i
    · subst ki
      by_cases y : ∀ k2, k2 ∈ ks.erase k → wrt ow pc q 64 k2 ≠ wrt ow pc q 64 k
      · exact absurd (ek ▸ free_mem hq y) h2
      · obtain ⟨k2, y⟩ := Classical.not_forall.mp y
        obtain ⟨y1, y2⟩ := Classical.not_imp.mp y
        exact ⟨k2, y1, (Classical.not_not.mp y2).trans ek⟩
    · exact ⟨k, (List.mem_erase_of_ne ki).mpr hk, ek⟩
theorem nd_set {bs : List Addr} {i : Nat} {b : Addr} (nd : bs.Nodup) (h : b ∉ bs) : (bs.set i b).Nodup := by
  refine List.pairwise_iff_getElem.mpr fun p q hp hq hpq e => ?_
  rw [List.length_set] at hp hq
  rw [List.getElem_set, List.getElem_set] at e
  have nd' := List.pairwise_iff_getElem.mp nd
  by_cases h1 : i = p
  · rw [if_pos h1, if_neg (by omega)] at e
    exact h (e ▸ List.getElem_mem _)
  · rw [if_neg h1] at e
    by_cases h2 : i = q
    · rw [if_pos h2] at e
      exact h (e ▸ List.getElem_mem _)
    · rw [if_neg h2] at e
      exact nd' p q hp hq hpq e
section
variable {P : Program} {w : World} {K : PySem.W.Frag} {mg : Str → Option Value} {base : Heap} {C CL : Addr}
def spFreed (C CL : Addr) : Sp := fun vs H Q _ => ∃ (N NB Ne : Addr → Prop) (o : Addr) (ws : List Int) (ow pc : List Nat) (vl : List Int) (ks : List Nat) (st : Int) (fs : List (Str × V)) (i : Nat), vs = [.ref o, num i] ∧ RowB NB H o C CL ws.length ow pc (ks.erase i) st fs ∧ Ext Ne H fs ws ow pc vl ks ∧ (∀ c, NB c → N c) ∧ (∀ c, Ne c → N c) ∧ (∀ c, NB c → ¬ Ne c) ∧ vl.length = ow.length ∧ (∀ c, N c → Ld H c) ∧ i ≤ ow.length ∧ ks.length ≤ 64 ∧
  ∀ (a : Addr) (H' : Hp) (xs : List V) (N' : Addr → Prop), H a = none → H' a = some (.lst xs) → PrX H' xs (freeL ow pc (ks.erase i) i ws.length) → RowA N' H' o C CL ws ow pc vl (ks.erase i) st → ¬ N' a → (∀ c u, ¬ N c → H c = some u → H' c = some u) → (∀ c, N' c → N c ∨ H c = none) → (∀ c, H' c = none → H c = none) → Q (.ref a) H'
theorem ok_freed (T : Txt K mg) (OC : RowC K C) (m__needed_no_more : Met P w K mg base 5 C "_needed_no_more" (spFree C CL) []) (M : MAt K C "freed" "Lined.freed" s_Lined_freed ["self", "make"]) : Met P w K mg base 6 C "freed" (spFreed C CL) [] := by
  refine M.met OC.cl sc_Lined_freed (fun vs H Q E h => ?_) (fun f cdv A outer s H vs Q E hr h => ?_)
  · obtain ⟨N, NB, Ne, o, ws, ow, pc, vl, ks, st, fs, i, rfl, _⟩ := h
    rfl
  · obtain ⟨N, NB, Ne, o, ws, ow, pc, vl, ks, st, fs, i, rfl, rb, xt, sb, se, dj, lv, laid, hi, h64, q⟩ := h
    obtain ⟨dx, e1, nl⟩ := rb.ins
    obtain ⟨⟨d, bs, rs, l, ed, nd, h1, h2, h3, h4, h5, h6, h7⟩, lin⟩ := xt
    have od : o ≠ d := fun z => dj o rb.own (z ▸ nd)
    have few := rb.low.2
    refine ⟨_, (pss_cons (ps_set (i := 2) sc_Lined_freed.nd rfl (Or.inl rfl) (pe_mt m__needed_no_more hr (by decide) (pv 0) (pa_cons (pv 1) pa_nil)))
      (pss_cons (ps_for PassesOwn.never rfl (pi_list (pv 2)) (pg_tup (by rfl) (pgs_cons (pg_name (i := 3) sc_Lined_freed.nd rfl (Or.inl rfl)) (pgs_cons (pg_name (i := 4) sc_Lined_freed.nd rfl (Or.inr rfl)) pgs_nil)))
          (pss_one (ps_asg (pe_lc (own := [("turn", 5)]) (g := gName 5) (tt := _) rfl sc_Lined_freed.nd (pi_list (pe_ix ix_list (pe_fld (pv 0) rfl) (pv 3) (fun _ _ => rfl))) (blkOk_by (own := [("turn", 5)]) (N := ["self", "make", "writes", "place", "writer", "turn"]) (sc := defScope s_Lined_freed) (by decide +kernel)) (fun _ _ _ _ _ => pg_name (i := 5) sc_Lined_freed.nd rfl (Or.inl rfl)) (fun _ _ _ _ _ => (pts_one (pt_cmpR op_ne (pe_ix (show IxR _ (rIxT K) from ix_tup) (pv 5) pe_int (fun _ _ => rfl)) (pv 4) (nomark _)))) (fun _ _ _ _ _ => (pv 5))) (pg_sub (pe_fld (pv 0) rfl) (pv 3) set_list))))
      (pss_one (ps_ret (pv 2))))), ?_⟩
    refine ⟨_, rfl, o, dx, fs, rfl, e1, nl _ (by decide), _, rfl, NB, o, ws.length, ow, pc, ks.erase i, st, fs, i, rfl, rb, hi, Nat.le_trans (List.length_erase_le ..) h64, fun W H1 xs hW eW px nx s1 => ?_⟩
    have Wd : W ≠ d := fun e => by rw [e, ed] at hW; cases hW
    have Wo : W ≠ o := fun e => by rw [e, e1] at hW; cases hW
    refine ⟨_, rfl, W, rfl, ⟨_, SqL.of eW⟩, ?_⟩
    have hrs : ∀ (q : Nat), q < ws.length → ∃ r, rs[q]? = some r ∧ Bx ws ow pc vl ks q r := fun q hq => ⟨rs[q], List.getElem?_eq_getElem (by omega), h7 q _ (List.getElem?_eq_getElem (by omega))⟩
    refine for_list (K := K) (a := W) (xs := xs) (fun k σ H' => ∃ (y3 y4 : Option V) (bs2 : List Addr), σ = [some (.ref o), some (num i), some (.ref W), y3, y4, none] ∧ H' d = some (.lst (bs2.map V.ref)) ∧ bs2.length = ws.length ∧ d ∉ bs2 ∧ bs2.Nodup ∧ (∀ b, b ∈ bs2 → b ∈ bs ∨ H1 b = none) ∧
        (∀ (q : Nat) (b : Addr) (r : List (Nat × Int)), bs2[q]? = some b → rs[q]? = some r → ∃ ys, H' b = some (.lst ys) ∧ ChX H' ys (outB ((freeL ow pc (ks.erase i) i ws.length).take k) q r)) ∧ (∀ c u, c ≠ d → H1 c = some u → H' c = some u))
      ⟨none, none, bs, rfl, s1 _ _ ed, h1, h3, h4, fun b h => .inl h, fun q b r hb hr => ?_, fun c u _ z => z⟩ (fun k σ H' _ hP => ?_) (fun k x σ H2 hkx hP => ?_) (fun σ H2 hP => ?_)
    · obtain ⟨ys, ey, cy⟩ := h6 q b r hb hr
      rw [List.take_zero, outB_nil]
      exact ⟨ys, s1 _ _ ey, cy.kp (KT.of s1)⟩
    · obtain ⟨y3, y4, bs2, rfl, _, _, _, _, _, _, k2⟩ := hP
      exact SqL.of (k2 _ _ Wd eW)
    · obtain ⟨y3, y4, bs2, rfl, ed2, g1, g3, g4, g5, g6, k2⟩ := hP
      obtain ⟨pr, tt, hpr, rfl, htt⟩ := px.get hkx
      have ttd : tt ≠ d := fun e => by rw [e, s1 _ _ ed] at htt; cases htt
      have hpf := mem_free (List.mem_of_getElem? hpr)
      obtain ⟨b, hb⟩ : ∃ b, bs2[pr.1]? = some b := ⟨bs2[pr.1]'(by omega), List.getElem?_eq_getElem (by omega)⟩
      obtain ⟨r, hr2, bx⟩ := hrs pr.1 hpf.1
      obtain ⟨ys, ey, cy⟩ := g6 pr.1 b r hb hr2
      have hlr := bx.len
      have hly : ys.length ≤ 64 := by
        rw [cy.len]
        exact Nat.le_trans (List.length_filter_le ..) (by omega)
      have e2 := k2 _ _ od (s1 _ _ e1)
      refine ⟨tt, _, rfl, SqT.of (k2 _ _ ttd htt), rfl, _, _, rfl, _, _, rfl, rfl, ?_⟩
      refine ⟨_, rfl, o, C, dx, fs, .ref d, rfl, e2, OC.cl, OC.n_boxes, l, _, rfl, d, _, _, .ref b, rfl, rfl, SqL.of ed2, atI_nat (by rw [List.getElem?_map, hb]; rfl), ?_⟩
      refine ⟨b, rfl, ⟨_, SqL.of ey⟩, fun B hB => ?_⟩
      refine lc_it (walk_list (xs := ys)) (fun m H' => Same H2 H' ∧ ∃ zs, H' B = some (.lst zs) ∧ ChX H' zs (((outB ((freeL ow pc (ks.erase i) i ws.length).take k) pr.1 r).take m).filter fun e => decide (e.1 ≠ pr.2))) ⟨same_new hB, [], upd_same, rfl, fun i c e => by cases e⟩ (fun m H' _ hP => SqL.of (hP.1 _ _ ey)) (fun m v H4 H5 hm hP hY => ?_) (fun H4 hP => ?_)
      · obtain ⟨s4, zs, eB, cz⟩ := hP
        obtain ⟨rfl, hki⟩ := hY
        obtain ⟨c, t, hc, rfl, ht⟩ := cy.get hki
        have hlz : zs.length ≤ 64 := by
          rw [cz.len]
          exact Nat.le_trans (List.length_filter_le ..) (by rw [List.length_take, ← cy.len]; omega)
        refine ⟨rfl, _, rfl, t, _, 0, _, rfl, rfl, SqT.of (s4 _ _ ht), rfl, _, rfl, rfl, _, rfl, ?_⟩
        have ef : (((outB ((freeL ow pc (ks.erase i) i ws.length).take k) pr.1 r).take (m + 1)).filter fun e => decide (e.1 ≠ pr.2)) = (((outB ((freeL ow pc (ks.erase i) i ws.length).take k) pr.1 r).take m).filter fun e => decide (e.1 ≠ pr.2)) ++ if c.1 = pr.2 then [] else [c] := by
          rw [List.take_add_one, hc, List.filter_append]
          congr 1
          show List.filter _ [c] = _
          by_cases y : c.1 = pr.2
          · simp [y]
          · simp [y]
        rw [ef, bl_ne]
        by_cases y : c.1 = pr.2
        · rw [decide_eq_false (fun z => z y), if_pos y, List.append_nil]
          exact iteF ⟨s4, zs, eB, cz⟩
        · rw [decide_eq_true y, if_neg y]
          refine iteT ⟨_, rfl, _, eB, small1000 (by omega), fun c' u z => ?_, zs ++ [.ref t], upd_same, cz.snoc (fun c' ys' z => ?_) ?_⟩
          · rw [upd_ne (ne_of_none z hB)]
            exact s4 _ _ z
          · rw [upd_ne (fun e => by rw [e, eB] at z; cases z)]
            exact z
          · rw [upd_ne (fun e => by
              have := s4 _ _ ht
              rw [e, eB] at this
              cases this)]
            exact s4 _ _ ht
      · obtain ⟨s4, zs, eB, cz⟩ := hP
        rw [cy.len, List.take_length] at cz
        have bB : b ≠ B := fun e => by rw [← e, ey] at hB; cases hB
        have dB : d ≠ B := fun e => by rw [← e, ed2] at hB; cases hB
        refine ⟨_, rfl, o, C, dx, fs, .ref d, rfl, s4 _ _ e2, OC.cl, OC.n_boxes, l, _, rfl, d, _, _, pr.1, rfl, rfl, s4 _ _ ed2, ?_, ?_⟩
        · unfold ixN
          rw [List.length_map, if_pos (by omega), if_pos (by omega)]
          rfl
        have k5 : ∀ c u, c ≠ d → H4 c = some u → (upd H4 d (.lst ((bs2.map V.ref).set pr.1 (.ref B)))) c = some u := fun c u hc z => by
          rw [upd_ne hc]
          exact z
        have ed5 : (upd H4 d (.lst ((bs2.map V.ref).set pr.1 (.ref B)))) d = some (.lst ((bs2.set pr.1 B).map V.ref)) := by
          rw [upd_same, List.map_set]
        generalize upd H4 d (.lst ((bs2.map V.ref).set pr.1 (.ref B))) = H5 at *
        have kt5 : KT H4 H5 := fun c ys' z => k5 _ _ (fun e => by rw [e, s4 _ _ ed2] at z; cases z) z
        have nB : B ∉ bs2 := fun h => by
          obtain ⟨j, hj⟩ := List.getElem?_of_mem h
          have hj1 := (List.getElem?_eq_some_iff.mp hj).1
          obtain ⟨r', hr', _⟩ := hrs j (by omega)
          obtain ⟨ys', ey', _⟩ := g6 j B r' hj hr'
          rw [ey'] at hB
          cases hB
        have hB1 : H1 B = none := by
          cases z : H1 B with
          | none => rfl
          | some u =>
            rw [k2 _ _ dB.symm z] at hB
            cases hB
        refine ⟨some (num pr.1), some (num pr.2), bs2.set pr.1 B, rfl, ed5, by rw [List.length_set]; exact g1, fun h => ?_, ?_, fun b' h => ?_, fun q' b' r' hb' hr' => ?_, fun c u hc z => k5 _ _ hc (s4 _ _ (k2 _ _ hc z))⟩
        · rcases List.mem_or_eq_of_mem_set h with h | h
          · exact g3 h
          · exact dB h
        · exact nd_set g4 nB
        · rcases List.mem_or_eq_of_mem_set h with h | h
          · exact g5 b' h
          · rw [h]
            exact .inr hB1
        · rw [List.take_add_one, hpr, show (some pr).toList = [pr] from rfl, outB_snoc]
          by_cases hq : pr.1 = q'
          · subst hq
            rw [List.getElem?_set_self (by omega)] at hb'
            cases hb'
            rw [hr2] at hr'
            cases hr'
            rw [if_pos rfl]
            exact ⟨zs, k5 _ _ dB.symm eB, cz.kp kt5⟩
          · rw [List.getElem?_set_ne hq] at hb'
            rw [if_neg fun e => hq e.symm]
            obtain ⟨ys', ey', cy'⟩ := g6 q' b' r' hb' hr'
            exact ⟨ys', k5 _ _ (fun e => g3 (e ▸ List.mem_of_getElem? hb')) (s4 _ _ ey'), (cy'.kp (KT.of s4)).kp kt5⟩
    · obtain ⟨y3, y4, bs2, rfl, ed2, g1, g3, g4, g5, g6, k2⟩ := hP
      rw [px.len, List.take_length] at g6
      have kt2 : KT H1 H2 := fun c ys' z => k2 _ _ (fun e => by rw [e, s1 _ _ ed] at z; cases z) z
      have ld2 : ∀ c, N c → Ld H2 c := fun c h => by
        by_cases y : c = d
        · rw [y]
          exact .lst ed2
        · exact (laid c h).kp fun u z => k2 _ _ y (s1 _ _ z)
      have nW : ¬ (N W ∨ W ∈ bs2) := fun h => by
        rcases h with h | h
        · exact (laid W h).ne hW
        · rcases g5 W h with h | h
          · exact (laid W (se W (h5 W h))).ne hW
          · rw [eW] at h
            cases h
      refine ⟨_, rfl, q W H2 xs (fun c => N c ∨ c ∈ bs2) hW (k2 _ _ Wd eW) (px.kp fun c ys z => kt2 _ _ z) ⟨⟨NB, fun c => c = d ∨ c ∈ bs2, fs, (rb.same s1).kp fun c u hc z => k2 _ _ (fun e => dj c hc (e ▸ nd)) z, ⟨⟨d, bs2, (List.range ws.length).map fun q => outB (freeL ow pc (ks.erase i) i ws.length) q (rs.getD q []), l, ed2, .inl rfl, g1, by rw [List.length_map, List.length_range], g3, g4, fun b h => .inr h, fun q' b' r' hb' hr' => ?_, fun q' r' hr' => ?_⟩, lin⟩, fun c h => .inl (sb c h), fun c h => ?_, fun c h1 h2 => ?_⟩, lv, fun c h => ?_⟩ nW (fun c u hc z => k2 _ _ (fun e => hc (e ▸ se d nd)) (s1 _ _ z)) (fun c h => ?_) fun c h => ?_⟩
      · obtain ⟨q2, hq2, rfl⟩ := Option.map_eq_some_iff.mp ((List.getElem?_map ..).symm.trans hr')
        have hlt := (List.getElem?_eq_some_iff.mp hq2).1
        rw [List.length_range] at hlt
        rw [List.getElem?_range hlt] at hq2
        cases hq2
        obtain ⟨r0, hr0, bx⟩ := hrs q' hlt
        rw [List.getD_eq_getElem?_getD, hr0]
        exact g6 q' b' r0 hb' hr0
      · obtain ⟨q2, hq2, rfl⟩ := Option.map_eq_some_iff.mp ((List.getElem?_map ..).symm.trans hr')
        have hlt := (List.getElem?_eq_some_iff.mp hq2).1
        rw [List.length_range] at hlt
        rw [List.getElem?_range hlt] at hq2
        cases hq2
        obtain ⟨r0, hr0, bx⟩ := hrs q' hlt
        rw [List.getD_eq_getElem?_getD, hr0]
        exact bx.go hlt
      · exact h.imp (fun e => by rw [e]; exact se d nd) id
      · rcases h2 with h2 | h2
        · rw [h2] at h1
          exact dj d h1 nd
        · rcases g5 c h2 with h | h
          · exact dj c h1 (h5 c h)
          · exact (laid c (sb c h1)).ne (none_of' s1 h)
      · rcases h with h | h
        · exact ld2 c h
        · obtain ⟨j, hj⟩ := List.getElem?_of_mem h
          have hj1 := (List.getElem?_eq_some_iff.mp hj).1
          obtain ⟨r0, hr0, _⟩ := hrs j (by omega)
          obtain ⟨ys', ey', _⟩ := g6 j c r0 hj hr0
          exact .lst ey'
      · rcases h with h | h
        · exact .inl h
        · rcases g5 c h with h | h
          · exact .inl (se c (h5 c h))
          · exact .inr (none_of' s1 h)
      · by_cases y : c = d
        · rw [y, ed2] at h
          cases h
        · cases z : H c with
          | none => rfl
          | some u =>
            rw [k2 _ _ y (s1 _ _ z)] at h
            cases h
end
end K41
set_option maxHeartbeats 1000000
namespace K41
open PySem PySem.Spec PyProof.Rows L2 Gd Gs
open NdefX (NScope nscope_by ncx startF NF)
open C8 (clsBody Met pe_mt pe_mt0)
section
variable {P : Program} {w : World} {K : PySem.W.Frag} {mg : Str → Option Value} {base : Heap} {C CL : Addr}
def spGo (C CL : Addr) : Sp := fun vs H Q _ => ∃ (N : Addr → Prop) (o : Addr) (ws : List Int) (ow pc : List Nat) (vl : List Int) (ks : List Nat) (st : Int) (i : Nat), vs = [.ref o, num i] ∧ RowA N H o C CL ws ow pc vl ks st ∧ i ≤ ow.length ∧ i ∈ ks ∧ 2 ≤ ks.length ∧ ks.length ≤ 64 ∧
  ∀ (a : Addr) (H' : Hp) (xs : List V) (N' : Addr → Prop), H a = none → H' a = some (.lst xs) → PrX H' xs (freeL ow pc (ks.erase i) i ws.length) → RowA N' H' o C CL ws ow pc vl (ks.erase i) st → ¬ N' a → (∀ c u, ¬ N c → H c = some u → H' c = some u) → (∀ c, N' c → N c ∨ H c = none) → Q (.ref a) H'
theorem fn_rgo {f : Addr} {fd : FuncData} (T : Txt K mg) (OC : RowC K C) (m_need_make : Met P w K mg base 2 C "need_make" (spNeedMk C CL) []) (m_freed : Met P w K mg base 6 C "freed" (spFreed C CL) []) (F : Fun K "let_go" "Rows.let_go" s_Rows_let_go f fd) : FnOk P w K mg base CX0 7 f fd ["self", "make"] (spGo C CL) := by
  refine F.ok sc_Rows_let_go (fun vs H Q E h => ?_) (fun cdv A outer s H vs Q E hr h => ?_)
  · obtain ⟨N, o, ws, ow, pc, vl, ks, st, i, rfl, _⟩ := h
    rfl
  · obtain ⟨N, o, ws, ow, pc, vl, ks, st, i, rfl, r, hi, hk, h2, h64, q⟩ := h
    refine ⟨_, (pss_cons (ps_expr (pe_mt m_need_make hr (by decide) (pv 0) (pa_cons (pv 1) pa_nil)))
      (pss_cons (ps_if (pt_cmpR op_eq (pe_callB call_len (by rfl) T.b_len boot_len_ (pa_cons (pe_fld (pv 0) rfl) pa_nil)) pe_int (nomark _))
          (pss_one ps_never) pss_nil)
      (pss_cons (ps_expr (pe_bm PySem.F.plainAttrs_list PySem.F.slot_list_remove PySem.F.type_list_remove mt_remove (pe_fld (pv 0) rfl) (pa_cons (pv 1) pa_nil)))
      (pss_one (ps_ret (pe_callTy call_list_of (by rfl) T.t_list boot_list_ (pa_cons (pe_mt m_freed hr (by decide) (pv 0) (pa_cons (pv 1) pa_nil)) pa_nil))))))), ?_⟩
    obtain ⟨NB, Ne, fs, rb, xt, sb, se, dj⟩ := r.ex
    obtain ⟨dx, t, p, kk, Nt, e1, l1, l2, l3, l4, l5, nl, lf, lw, e2, e3, No, Nt', Np, Nk, sub, x1, x2, x3, x4, x6, x7⟩ := rb.ex
    have okk : o ≠ kk := fun e => by rw [e, e3] at e1; cases e1
    have tk : t ≠ kk := fun e => by
      obtain ⟨_, _, _, _, _, et, _⟩ := lw.tr.ex
      rw [e, e3] at et
      cases et
    refine ⟨_, rfl, o, dx, fs, rfl, e1, nl _ (by decide), _, rfl, NB, o, ws.length, ow, pc, ks, st, fs, i, rfl, rb, hi, hk, ?_⟩
    refine ⟨_, rfl, o, C, dx, fs, .ref kk, rfl, e1, OC.cl, OC.n_kept, l4, _, _, rfl, .inl ⟨_, SqL.of e3, rfl⟩, rfl, _, rfl, ?_⟩
    refine ite2 (fun z => ?_) (fun _ => ?_)
    · have := V.int.inj (of_decide_eq_true z)
      rw [List.length_map] at this
      omega
    obtain ⟨j, _, hj, hno, he⟩ := first_at (ns := ks.map fun k : Nat => (k : Int)) (k := (i : Int)) (List.mem_map.mpr ⟨i, hk, rfl⟩)
    refine ⟨_, rfl, o, C, dx, fs, .ref kk, rfl, e1, OC.cl, OC.n_kept, l4, .inl ⟨rfl, _, SqL.of e3⟩, _, rfl, kk, _, (i : Int), j, rfl, rfl, (num_map ks ▸ e3), hj, hno, ?_⟩
    rw [he, map_erase, ← num_map]
    have k1 : ∀ c u, c ≠ kk → H c = some u → (upd H kk (.lst ((ks.erase i).map num))) c = some u := fun c u hc z => by
      rw [upd_ne hc]
      exact z
    have e31 : (upd H kk (.lst ((ks.erase i).map num))) kk = some (.lst ((ks.erase i).map num)) := upd_same
    generalize upd H kk (.lst ((ks.erase i).map num)) = H1 at *
    have kt1 : KT H H1 := fun c ys z => k1 _ _ (fun e => by rw [e, e3] at z; cases z) z
    have rb1 : RowB NB H1 o C CL ws.length ow pc (ks.erase i) st fs := ⟨⟨dx, t, p, kk, Nt, k1 _ _ okk e1, l1, l2, l3, l4, l5, nl, lf, lw.kp (fun c u h z => k1 _ _ (h.elim (fun h e => x4 (e ▸ h)) fun e => e ▸ tk) z), k1 _ _ x6 e2, e31, No, Nt', Np, Nk, sub, x1, x2, x3, x4, x6, x7⟩, rb.lp, rb.sz, rb.pl, fun a h => rb.kl a (List.mem_of_mem_erase h), rb.kr.sublist (List.erase_sublist ..)⟩
    have x1' := xt.kp (fun c u h z => k1 _ _ (fun e => dj kk Nk (e ▸ h)) z) kt1
    refine ⟨_, rfl, o, dx, fs, rfl, k1 _ _ okk e1, nl _ (by decide), _, rfl, N, NB, Ne, o, ws, ow, pc, vl, ks, st, fs, i, rfl, rb1, x1', sb, se, dj, r.lv, fun c h => ?_, hi, h64, fun a H2 xs N2 ha ea px r2 na k2 f2 n2 => ?_⟩
    · by_cases y : c = kk
      · rw [y]
        exact .lst e31
      · exact (r.laid c h).kp fun u z => k1 _ _ y z
    refine ⟨a, xs, rfl, .inl (SqL.of ea), fun b hb => ?_⟩
    have s3 := same_new (o := .lst xs) hb
    have nN2 : ¬ N2 b := fun h => (r2.laid b h).ne hb
    have h0 : ∀ c, H1 c = none → H c = none := fun c h => by
      cases z : H c with
      | none => rfl
      | some u =>
        by_cases y : c = kk
        · rw [y, e31] at h
          cases h
        · rw [k1 _ _ y z] at h
          cases h
    have hb0 : H b = none := h0 b (n2 b hb)
    exact q b _ xs N2 hb0 upd_same (px.kp fun c ys z => s3 _ _ z) (r2.same s3) nN2 (fun c u hc z => s3 _ _ (k2 _ _ hc (k1 _ _ (fun e => hc (e ▸ sb kk Nk)) z))) fun c h => (f2 c h).imp id (h0 c)
theorem ns_go : NScope ["self", "make", "__class__"] ["self", "make"] ["__class__"] (defScope s_Lined_let_go) := nscope_by (by decide +kernel)
theorem ok_go {g : Addr} {fd : FuncData} (T : Txt K mg) (OC : RowC K C) (F : FnOk P w K mg base CX0 7 g fd ["self", "make"] (spGo C CL)) (hb : Binds K fd ["self", "make"] []) (S : SAt P K C "let_go" "Lined.let_go" s_Lined_let_go ["self", "make"] g) : Met P w K mg base 8 C "let_go" (spGo C CL) [] := by
  obtain ⟨f, cc, c, oc, od, doc, pm, an, ct, osl, sup, lk, me, bi⟩ := S.ex
  refine ⟨f, _, _, [], OC.cl, me, ?_, bi, .nil⟩
  refine okS_ret sup lk ns_go rfl (fun vs H Q E h => ?_) rfl F hb (by rfl) (fun L => by rfl) (fun L => by rfl) (fun L => by rfl) ?_
  · obtain ⟨N, o, ws, ow, pc, vl, ks, st, i, rfl, _⟩ := h
    rfl
  · rintro A outer s H vs Q E hr ⟨N, o, ws, ow, pc, vl, ks, st, i, rfl, r, rest⟩
    obtain ⟨dx, fs, e1, nl⟩ := r.ins
    exact ⟨o, dx, fs, E0, _, rfl, e1, pass0, (pa_cons (pv 1) pa_nil), _, rfl, N, o, ws, ow, pc, vl, ks, st, i, rfl, r, rest⟩
/-! ### a box told, the word, the room -/
def spBoxA (C CL : Addr) : Sp := fun vs H Q _ => ∃ (N : Addr → Prop) (o : Addr) (ws : List Int) (ow pc : List Nat) (vl : List Int) (ks : List Nat) (st : Int) (j : Nat), vs = [.ref o, num j] ∧ RowA N H o C CL ws ow pc vl ks st ∧ j < ws.length ∧
  ∀ (a : Addr) (H' : Hp) (xs : List V), H a = none → H' a = some (.lst xs) → ChX H' xs (bxL ws ow pc vl ks j) → Same H H' → Q (.ref a) H'
theorem ok_boxA (T : Txt K mg) (OC : RowC K C) (m_need_place : Met P w K mg base 2 C "need_place" (spNeedPl C CL) []) (M : MAt K C "box" "Lined.box" s_Lined_box ["self", "place"]) : Met P w K mg base 3 C "box" (spBoxA C CL) [] := by
  refine M.met OC.cl sc_Lined_box (fun vs H Q E h => ?_) (fun f cdv A outer s H vs Q E hr h => ?_)
  · obtain ⟨N, o, ws, ow, pc, vl, ks, st, j, rfl, _⟩ := h
    rfl
  · obtain ⟨N, o, ws, ow, pc, vl, ks, st, j, rfl, r, hj, q⟩ := h
    obtain ⟨NB, Ne, fs, rb, xt, sb, se, dj⟩ := r.ex
    obtain ⟨dx, e1, nl⟩ := rb.ins
    obtain ⟨⟨d, bs, rs, l, ed, nd, h1, h2, h3, h4, h5, h6, h7⟩, lin⟩ := xt
    obtain ⟨b, hb⟩ : ∃ b, bs[j]? = some b := ⟨bs[j], List.getElem?_eq_getElem (by omega)⟩
    obtain ⟨rr, hrr⟩ : ∃ rr, rs[j]? = some rr := ⟨rs[j], List.getElem?_eq_getElem (by omega)⟩
    obtain ⟨xs, eb, cx⟩ := h6 j b rr hb hrr
    have bx := (h7 j rr hrr).eq
    refine ⟨_, (pss_cons (ps_expr (pe_mt m_need_place hr (by decide) (pv 0) (pa_cons (pv 1) pa_nil)))
      (pss_one (ps_ret (pe_callTy call_list_of (by rfl) T.t_list boot_list_ (pa_cons (pe_ix ix_list (pe_fld (pv 0) rfl) (pv 1) (fun _ _ => rfl)) pa_nil))))), ?_⟩
    refine ⟨_, rfl, o, dx, fs, rfl, e1, nl _ (by decide), _, rfl, NB, o, ws.length, ow, pc, ks, st, fs, j, rfl, rb, hj, ?_⟩
    refine ⟨_, rfl, o, C, dx, fs, .ref d, rfl, e1, OC.cl, OC.n_boxes, l, _, rfl, d, _, _, .ref b, rfl, rfl, SqL.of ed, atI_nat (by rw [List.getElem?_map, hb]; rfl), b, _, rfl, .inl (SqL.of eb), fun a ha => ?_⟩
    have s1 := same_new (o := .lst xs) ha
    exact q a _ xs ha upd_same (bx ▸ cx.kp (KT.of s1)) s1
def spWay (C : Addr) : Sp := fun vs H Q _ => ∃ u : V, vs = [u] ∧ Q (.str "lined") H
theorem ok_way (T : Txt K mg) (OC : RowC K C) (M : MAt K C "way" "Lined.way" s_Lined_way ["self"]) : Met P w K mg base 1 C "way" (spWay C) [] := by
  refine M.met OC.cl sc_Lined_way (fun vs H Q E h => ?_) (fun f cdv A outer s H vs Q E hr h => ?_)
  · obtain ⟨u, rfl, _⟩ := h
    rfl
  · obtain ⟨u, rfl, q⟩ := h
    exact ⟨_, (pss_one (ps_ret pe_str)), q⟩
end
end K41
set_option maxHeartbeats 1000000
namespace K41
open PySem PySem.Spec PyProof.Rows L2 Gd Gs
open NdefX (NScope nscope_by ncx startF NF)
open C8 (clsBody Met pe_mt pe_mt0)
theorem Lw.off {C t : Addr} {N : Addr → Prop} {H : Hp} {ow : List Nat} (l : Lw C N H t ow) : Lw C (fun c => N c ∧ c ≠ t) H t ow := by
  obtain ⟨N1, N2, dx, q, fs, tw, e1, l1, lv, dis, i1, i2⟩ := l.ex
  obtain ⟨ls, h1, h2, h3, h4⟩ := lv.ex
  refine ⟨_, (fun c => N2 c ∧ c ≠ t), dx, q, fs, tw.cut, e1, l1, ⟨ls, h1, h2, ⟨h3, fun z => by rw [z, e1] at h1; cases h1⟩, fun i a ha => ?_⟩, fun c h1 h2 => dis c h1.1 h2.1, fun c h => ⟨i1 _ h.1, h.2.1⟩, fun c h => ⟨i2 _ h.1, h.2⟩⟩
  obtain ⟨a1, a2, ks, a3, a4⟩ := h4 i a ha
  exact ⟨⟨a1, fun z => by rw [z, e1] at a3; cases a3⟩, a2, ks, a3, a4⟩
section
variable {P : Program} {w : World} {K : PySem.W.Frag} {mg : Str → Option Value} {base : Heap} {C CL : Addr}
def spSame (C CL : Addr) : Sp := fun vs H Q _ => ∃ (N : Addr → Prop) (o o2 : Addr) (n : Nat) (ow pc ks : List Nat) (st : Int) (fs : List (Str × V)) (dx : Addr) (fs2 : List (Str × V)) (x1 x2 x3 x4 x5 : V), vs = [.ref o, .ref o2] ∧ RowB N H o C CL n ow pc ks st fs ∧ H o2 = some (.ins C dx fs2) ∧ fs2.lookup ("_row_size" : Str) = some x1 ∧ fs2.lookup ("_row_tree" : Str) = some x2 ∧ fs2.lookup ("_row_places" : Str) = some x3 ∧
  fs2.lookup ("_row_kept" : Str) = some x4 ∧ fs2.lookup ("_row_steps" : Str) = some x5 ∧ (∀ f, f ∉ rfields → fs2.lookup f = none) ∧ fs2.length < 100 ∧ ¬ N o2 ∧
  ∀ (H' : Hp) (N' : Addr → Prop) (fs3 : List (Str × V)), RowB N' H' o2 C CL n ow pc ks st fs3 → (∀ f, f ∉ bfields → fs3.lookup f = fs2.lookup f) → (∀ c u, c ≠ o2 → H c = some u → H' c = some u) → (∀ c, N' c → c = o2 ∨ H c = none) → Q (.ref o2) H'
theorem ok_same (T : Txt K mg) (OC : RowC K C) (m_copied : Met P w K mg base 6 CL "copied" (spCopied CL (Lw CL)) []) (M : MAt K C "same_makes" "Rows.same_makes" s_Rows_same_makes ["self", "other"]) : Met P w K mg base 7 C "same_makes" (spSame C CL) [] := by
  refine M.met OC.cl sc_Rows_same_makes (fun vs H Q E h => ?_) (fun f cdv A outer s H vs Q E hr h => ?_)
  · obtain ⟨N, o, o2, n, ow, pc, ks, st, fs, dx, fs2, x1, x2, x3, x4, x5, rfl, _⟩ := h
    rfl
  · obtain ⟨N, o, o2, n, ow, pc, ks, st, fs, dx2, fs2, x1, x2, x3, x4, x5, rfl, r, g0, j1, j2, j3, j4, j5, nl2, lf2, n2, q⟩ := h
    obtain ⟨dx, t, p, kk, Nt, e1, l1, l2, l3, l4, l5, nl, lf, lw, e2, e3, No, Nt', Np, Nk, sub, z1, z2, z3, z4, z6, z7⟩ := r.ex
    obtain ⟨dt, ft, et, nlt⟩ : ∃ dt ft, H t = some (.ins CL dt ft) ∧ ∀ m, m ∉ fields → ft.lookup m = none := by
      obtain ⟨dt, a, b, c, ft, e, _, _, _, nlt, _⟩ := lw.tr.ex
      exact ⟨dt, ft, e, nlt⟩
    have oo : o ≠ o2 := fun e => n2 (e ▸ No)
    have to : t ≠ o2 := fun e => n2 (e ▸ Nt')
    have po : p ≠ o2 := fun e => n2 (e ▸ Np)
    have ko : kk ≠ o2 := fun e => n2 (e ▸ Nk)
    refine ⟨_, (pss_cons (ps_fld (pv 1) (pe_fld (pv 0) rfl) rfl)
      (pss_cons (ps_fld (pv 1) (pe_mt0 m_copied hr (by decide) (pe_fld (pv 0) rfl)) rfl)
      (pss_cons (ps_fld (pv 1) (pe_callTy call_list_of (by rfl) T.t_list boot_list_ (pa_cons (pe_fld (pv 0) rfl) pa_nil)) rfl)
      (pss_cons (ps_fld (pv 1) (pe_callTy call_list_of (by rfl) T.t_list boot_list_ (pa_cons (pe_fld (pv 0) rfl) pa_nil)) rfl)
      (pss_cons (ps_fld (pv 1) (pe_fld (pv 0) rfl) rfl)
      (pss_one (ps_ret (pv 1)))))))), ?_⟩
    refine ⟨_, rfl, o, C, dx, fs, num n, rfl, e1, OC.cl, OC.n_size, l1, _, rfl, o2, C, dx2, fs2, rfl, g0, OC.cl, OC.n_size, by omega, ?_⟩
    have q1 := putF_len (v := num n) j1
    have k1 : ∀ c u, c ≠ o2 → H c = some u → (upd H o2 (.ins C dx2 (putF "_row_size" (num n) fs2))) c = some u := fun c u hc z => by
      rw [upd_ne hc]
      exact z
    have g1 : (upd H o2 (.ins C dx2 (putF "_row_size" (num n) fs2))) o2 = some (.ins C dx2 (putF "_row_size" (num n) fs2)) := upd_same
    have n1 : ∀ c, (upd H o2 (.ins C dx2 (putF "_row_size" (num n) fs2))) c = none → H c = none := fun c z => upd_none z
    generalize upd H o2 (.ins C dx2 (putF "_row_size" (num n) fs2)) = H1 at *
    have r1 := r.kp (H' := H1) fun c u hc z => k1 c u (fun e => n2 (e ▸ hc)) z
    have lw1 := lw.kp (H' := H1) fun c u hc z => k1 c u (hc.elim (fun h e => n2 (e ▸ sub c h)) fun e => e ▸ to) z
    refine ⟨_, rfl, o, C, dx, fs, .ref t, rfl, k1 _ _ oo e1, OC.cl, OC.n_tree, l2, t, dt, ft, rfl, k1 _ _ to et, nlt _ (by decide), t, ow, rfl, lw1.tr, fun u H2 Nu hu lu fu s2 => ?_⟩
    obtain ⟨Nu, lu, fu, nuu⟩ : ∃ Nv : Addr → Prop, Lw CL Nv H2 u ow ∧ (∀ c, Nv c → H1 c = none) ∧ ¬ Nv u := ⟨_, lu.off, fun c h => fu c h.1, fun h => h.2 rfl⟩
    have gu := s2 _ _ g1
    have uo : u ≠ o2 := (ne_of_none g1 hu).symm
    obtain ⟨du, fu', eu⟩ : ∃ dt ft, H2 u = some (.ins CL dt ft) := by
      obtain ⟨dt, a, b, c, ft, e, _⟩ := lu.tr.ex
      exact ⟨dt, ft, e⟩
    have j2' : (putF "_row_size" (num n) fs2).lookup ("_row_tree" : Str) = some x2 := by rw [lookup_putF, if_neg (by decide)]; exact j2
    have q2 := putF_len (v := .ref u) j2'
    refine ⟨_, rfl, o2, C, dx2, _, rfl, gu, OC.cl, OC.n_tree, by rw [q1]; omega, ?_⟩
    have k3 : ∀ c v, c ≠ o2 → H2 c = some v → (upd H2 o2 (.ins C dx2 (putF "_row_tree" (.ref u) (putF "_row_size" (num n) fs2)))) c = some v := fun c v hc z => by
      rw [upd_ne hc]
      exact z
    have g3 : (upd H2 o2 (.ins C dx2 (putF "_row_tree" (.ref u) (putF "_row_size" (num n) fs2)))) o2 = some (.ins C dx2 (putF "_row_tree" (.ref u) (putF "_row_size" (num n) fs2))) := upd_same
    have n3 : ∀ c, (upd H2 o2 (.ins C dx2 (putF "_row_tree" (.ref u) (putF "_row_size" (num n) fs2)))) c = none → H c = none := fun c z => n1 _ (none_of' s2 (upd_none z))
    generalize upd H2 o2 (.ins C dx2 (putF "_row_tree" (.ref u) (putF "_row_size" (num n) fs2))) = H3 at *
    have k03 : ∀ c v, c ≠ o2 → H c = some v → H3 c = some v := fun c v hc z => k3 _ _ hc (s2 _ _ (k1 _ _ hc z))
    have b2 := k03 _ _ po e2
    refine ⟨_, rfl, o, C, dx, fs, .ref p, rfl, k03 _ _ oo e1, OC.cl, OC.n_places, l3, p, _, rfl, .inl (SqL.of b2), fun a ha => ?_⟩
    have s4 := same_new (o := .lst (.non :: pc.map num)) ha
    have ea : (upd H3 a (.lst (.non :: pc.map num))) a = some (.lst (.non :: pc.map num)) := upd_same
    have ao : a ≠ o2 := (ne_of_none g3 ha).symm
    have ha0 := n3 _ ha
    have au : a ≠ u := fun e => by rw [e, k3 _ _ uo eu] at ha; cases ha
    generalize upd H3 a (.lst (.non :: pc.map num)) = H4 at *
    have j3' : (putF "_row_tree" (.ref u) (putF "_row_size" (num n) fs2)).lookup ("_row_places" : Str) = some x3 := by rw [lookup_putF, if_neg (by decide), lookup_putF, if_neg (by decide)]; exact j3
    have q3 := putF_len (v := .ref a) j3'
    refine ⟨_, rfl, o2, C, dx2, _, rfl, s4 _ _ g3, OC.cl, OC.n_places, by rw [q2, q1]; omega, ?_⟩
    have k5 : ∀ c v, c ≠ o2 → H4 c = some v → (upd H4 o2 (.ins C dx2 (putF "_row_places" (.ref a) (putF "_row_tree" (.ref u) (putF "_row_size" (num n) fs2))))) c = some v := fun c v hc z => by
      rw [upd_ne hc]
      exact z
    have g5 : (upd H4 o2 (.ins C dx2 (putF "_row_places" (.ref a) (putF "_row_tree" (.ref u) (putF "_row_size" (num n) fs2))))) o2 = some (.ins C dx2 (putF "_row_places" (.ref a) (putF "_row_tree" (.ref u) (putF "_row_size" (num n) fs2)))) := upd_same
    have n5 : ∀ c, (upd H4 o2 (.ins C dx2 (putF "_row_places" (.ref a) (putF "_row_tree" (.ref u) (putF "_row_size" (num n) fs2))))) c = none → H c = none := fun c z => n3 _ (none_of' s4 (upd_none z))
    generalize upd H4 o2 (.ins C dx2 (putF "_row_places" (.ref a) (putF "_row_tree" (.ref u) (putF "_row_size" (num n) fs2)))) = H5 at *
    have k05 : ∀ c v, c ≠ o2 → H c = some v → H5 c = some v := fun c v hc z => k5 _ _ hc (s4 _ _ (k03 _ _ hc z))
    refine ⟨_, rfl, o, C, dx, fs, .ref kk, rfl, k05 _ _ oo e1, OC.cl, OC.n_kept, l4, kk, _, rfl, .inl (SqL.of (k05 _ _ ko e3)), fun b hb => ?_⟩
    have s6 := same_new (o := .lst (ks.map num)) hb
    have eb : (upd H5 b (.lst (ks.map num))) b = some (.lst (ks.map num)) := upd_same
    have bo : b ≠ o2 := (ne_of_none g5 hb).symm
    have hb0 := n5 _ hb
    have ab : a ≠ b := ne_of_none (k5 _ _ ao ea) hb
    have bu : b ≠ u := fun e => by rw [e, k5 _ _ uo (s4 _ _ (k3 _ _ uo eu))] at hb; cases hb
    generalize upd H5 b (.lst (ks.map num)) = H6 at *
    have j4' : (putF "_row_places" (.ref a) (putF "_row_tree" (.ref u) (putF "_row_size" (num n) fs2))).lookup ("_row_kept" : Str) = some x4 := by rw [lookup_putF, if_neg (by decide), lookup_putF, if_neg (by decide), lookup_putF, if_neg (by decide)]; exact j4
    have q4 := putF_len (v := .ref b) j4'
    refine ⟨_, rfl, o2, C, dx2, _, rfl, s6 _ _ g5, OC.cl, OC.n_kept, by rw [q3, q2, q1]; omega, ?_⟩
    have k7 : ∀ c v, c ≠ o2 → H6 c = some v → (upd H6 o2 (.ins C dx2 (putF "_row_kept" (.ref b) (putF "_row_places" (.ref a) (putF "_row_tree" (.ref u) (putF "_row_size" (num n) fs2)))))) c = some v := fun c v hc z => by
      rw [upd_ne hc]
      exact z
    have g7 : (upd H6 o2 (.ins C dx2 (putF "_row_kept" (.ref b) (putF "_row_places" (.ref a) (putF "_row_tree" (.ref u) (putF "_row_size" (num n) fs2)))))) o2 = some (.ins C dx2 (putF "_row_kept" (.ref b) (putF "_row_places" (.ref a) (putF "_row_tree" (.ref u) (putF "_row_size" (num n) fs2))))) := upd_same
    generalize upd H6 o2 (.ins C dx2 (putF "_row_kept" (.ref b) (putF "_row_places" (.ref a) (putF "_row_tree" (.ref u) (putF "_row_size" (num n) fs2))))) = H7 at *
    have k07 : ∀ c v, c ≠ o2 → H c = some v → H7 c = some v := fun c v hc z => k7 _ _ hc (s6 _ _ (k05 _ _ hc z))
    have j5' : (putF "_row_kept" (.ref b) (putF "_row_places" (.ref a) (putF "_row_tree" (.ref u) (putF "_row_size" (num n) fs2)))).lookup ("_row_steps" : Str) = some x5 := by rw [lookup_putF, if_neg (by decide), lookup_putF, if_neg (by decide), lookup_putF, if_neg (by decide), lookup_putF, if_neg (by decide)]; exact j5
    have q5 := putF_len (v := .int st) j5'
    refine ⟨_, rfl, o, C, dx, fs, .int st, rfl, k07 _ _ oo e1, OC.cl, OC.n_steps, l5, _, rfl, o2, C, dx2, _, rfl, g7, OC.cl, OC.n_steps, by rw [q4, q3, q2, q1]; omega, ?_⟩
    have k8 : ∀ c v, c ≠ o2 → H7 c = some v → (upd H7 o2 (.ins C dx2 (putF "_row_steps" (.int st) (putF "_row_kept" (.ref b) (putF "_row_places" (.ref a) (putF "_row_tree" (.ref u) (putF "_row_size" (num n) fs2))))))) c = some v := fun c v hc z => by
      rw [upd_ne hc]
      exact z
    have g8 : (upd H7 o2 (.ins C dx2 (putF "_row_steps" (.int st) (putF "_row_kept" (.ref b) (putF "_row_places" (.ref a) (putF "_row_tree" (.ref u) (putF "_row_size" (num n) fs2))))))) o2 = some (.ins C dx2 (putF "_row_steps" (.int st) (putF "_row_kept" (.ref b) (putF "_row_places" (.ref a) (putF "_row_tree" (.ref u) (putF "_row_size" (num n) fs2)))))) := upd_same
    generalize upd H7 o2 (.ins C dx2 (putF "_row_steps" (.int st) (putF "_row_kept" (.ref b) (putF "_row_places" (.ref a) (putF "_row_tree" (.ref u) (putF "_row_size" (num n) fs2)))))) = H8 at *
    have k28 : ∀ c v, c ≠ o2 → H2 c = some v → H8 c = some v := fun c v hc z => k8 _ _ hc (k7 _ _ hc (s6 _ _ (k5 _ _ hc (s4 _ _ (k3 _ _ hc z)))))
    have fu0 : ∀ c, Nu c → H c = none ∧ c ≠ o2 := fun c h => by
      refine ⟨n1 _ (fu c h), fun e => ?_⟩
      have z := fu c h
      rw [e, g1] at z
      cases z
    have lu2 := lu.cut
    refine ⟨_, rfl, q H8 (fun c => c = o2 ∨ c = u ∨ c = a ∨ c = b ∨ (Nu c ∧ H2 c ≠ none)) _ ⟨⟨dx2, u, a, b, _, g8, ?_, ?_, ?_, ?_, ?_, fun g hg => ?_, by rw [q5, q4, q3, q2, q1]; exact lf2, lu2.kp (fun c v h z => k28 c v (h.elim (fun h => (fu0 c h.1).2) fun e => e ▸ uo) z), k8 _ _ ao (k7 _ _ ao (s6 _ _ (k5 _ _ ao ea))), k8 _ _ bo (k7 _ _ bo eb), .inl rfl, .inr (.inl rfl), .inr (.inr (.inl rfl)), .inr (.inr (.inr (.inl rfl))), fun c h => .inr (.inr (.inr (.inr h))), fun h => (fu0 o2 h.1).2 rfl, fun h => nuu h.1, fun h => ?_, fun h => ?_, ab, uo.symm⟩, r.lp, r.sz, r.pl, r.kl, r.kr⟩ (fun g hg => ?_) (fun c v hc z => k28 _ _ hc (s2 _ _ (k1 _ _ hc z))) fun c h => ?_⟩
    · rw [lookup_putF, if_neg (by decide), lookup_putF, if_neg (by decide), lookup_putF, if_neg (by decide), lookup_putF, if_neg (by decide), lookup_putF, if_pos rfl]
    · rw [lookup_putF, if_neg (by decide), lookup_putF, if_neg (by decide), lookup_putF, if_neg (by decide), lookup_putF, if_pos rfl]
    · rw [lookup_putF, if_neg (by decide), lookup_putF, if_neg (by decide), lookup_putF, if_pos rfl]
    · rw [lookup_putF, if_neg (by decide), lookup_putF, if_pos rfl]
    · rw [lookup_putF, if_pos rfl]
    · rw [lookup_putF, if_neg (fun z => hg (by rw [z]; decide)), lookup_putF, if_neg (fun z => hg (by rw [z]; decide)), lookup_putF, if_neg (fun z => hg (by rw [z]; decide)), lookup_putF, if_neg (fun z => hg (by rw [z]; decide)), lookup_putF, if_neg (fun z => hg (by rw [z]; decide))]
      exact nl2 g hg
    · obtain ⟨v, hv⟩ := Option.ne_none_iff_exists'.mp h.2
      rw [k3 _ _ ao hv] at ha
      cases ha
    · obtain ⟨v, hv⟩ := Option.ne_none_iff_exists'.mp h.2
      rw [k5 _ _ bo (s4 _ _ (k3 _ _ bo hv))] at hb
      cases hb
    · rw [lookup_putF, if_neg (fun z => hg (by rw [z]; decide)), lookup_putF, if_neg (fun z => hg (by rw [z]; decide)), lookup_putF, if_neg (fun z => hg (by rw [z]; decide)), lookup_putF, if_neg (fun z => hg (by rw [z]; decide)), lookup_putF, if_neg (fun z => hg (by rw [z]; decide))]
    · rcases h with rfl | rfl | rfl | rfl | h
      · exact .inl rfl
      · exact .inr (n1 _ hu)
      · exact .inr ha0
      · exact .inr hb0
      · exact .inr (fu0 c h.1).1
end
end K41
namespace K41
open PySem PySem.Spec PyProof.Rows L2 Gd Gs Gx Ge
open C8 (clsBody Met pe_mt pe_mt0)
theorem num2k {n : Nat} (h : n ≤ 2000) : Okd (.int (n : Nat)) 50 0 := okInt ⟨by
  have e : (10 : Int) ^ 40 = 10000000000000000000000000000000000000000 := by decide
  rw [e]
  omega, by
  have e : (10 : Int) ^ 40 = 10000000000000000000000000000000000000000 := by decide
  rw [e]
  omega⟩
theorem wtOk {n : Int} (h : -big30 ≤ n ∧ n ≤ big30) : Okd (.int n) 50 0 := okInt ⟨by
  have e : (10 : Int) ^ 40 = 10000000000000000000000000000000000000000 := by decide
  rw [e]
  have := b30
  omega, by
  have e : (10 : Int) ^ 40 = 10000000000000000000000000000000000000000 := by decide
  rw [e]
  have := b30
  omega⟩
/-- all worths are worths -/
structure Bg (ws vl : List Int) : Prop where
  w : ∀ x, x ∈ ws → -big30 ≤ x ∧ x ≤ big30
  v : ∀ x, x ∈ vl → -big30 ≤ x ∧ x ≤ big30
theorem big_getD {xs : List Int} (h : ∀ x, x ∈ xs → -big30 ≤ x ∧ x ≤ big30) (i : Nat) : -big30 ≤ xs.getD i 0 ∧ xs.getD i 0 ≤ big30 := by
  rw [List.getD_eq_getElem?_getD]
  cases e : xs[i]? with
  | none => exact (show -big30 ≤ (0 : Int) ∧ (0 : Int) ≤ big30 by decide)
  | some x => exact h x (List.mem_of_getElem? e)
theorem Bg.val {ws vl : List Int} (r : Bg ws vl) (ow pc : List Nat) (q i : Nat) : -big30 ≤ val ws ow pc vl q i ∧ val ws ow pc vl q i ≤ big30 := by
  unfold K41.val
  split
  · exact big_getD r.w _
  · exact big_getD r.v _
theorem intsOk {xs : List Int} (h : ∀ x ∈ xs, -big30 ≤ x ∧ x ≤ big30) (l : xs.length ≤ 100) : Okd (.list (xs.map PyData.int)) 10000 1 := by
  refine (okList (m := 50) (e := 0) (n := 100) (fun d hd => ?_) (by rw [List.length_map]; exact l)).up (by decide) (by decide)
  obtain ⟨x, hx, rfl⟩ := List.mem_map.mp hd
  exact wtOk (h x hx)
theorem Bg.row {ws vl : List Int} (r : Bg ws vl) (h : ws.length ≤ 16) (ow pc : List Nat) (i : Nat) : Okd (.list ((rowV ws ow pc vl i).map PyData.int)) 10000 1 := by
  refine intsOk (fun x hx => ?_) (by unfold rowV; rw [List.length_map, List.length_range]; omega)
  unfold rowV at hx
  obtain ⟨k, _, rfl⟩ := List.mem_map.mp hx
  exact r.val ow pc k i
theorem numsOk {xs : List Nat} (h : ∀ x ∈ xs, x ≤ 2000) (l : xs.length ≤ 200) : Okd (.list (xs.map fun n => PyData.int (n : Nat))) 20000 1 := by
  refine (okList (m := 50) (e := 0) (n := 200) (fun d hd => ?_) (by rw [List.length_map]; exact l)).up (by decide) (by decide)
  obtain ⟨x, hx, rfl⟩ := List.mem_map.mp hd
  exact num2k (h x hx)
theorem numsD {K : PySem.W.Frag} {H : Hp} : ∀ xs : List Nat, DpAll K H (xs.map num) (xs.map fun n => PyData.int (n : Nat))
  | [] => .nil
  | x :: xs => .cons (.int _) (numsD xs)
theorem dpInts {K : PySem.W.Frag} {H : Hp} : ∀ ns : List Int, DpAll K H (ns.map V.int) (ns.map PyData.int)
  | [] => .nil
  | n :: ns => .cons (.int n) (dpInts ns)
def chD (c : Nat × Int) : PyData := .tuple [.int ((c.1 : Nat) : Int), .int c.2]
theorem chDp {K : PySem.W.Frag} {H : Hp} : ∀ (cs : List (Nat × Int)) (xs : List V), ChX H xs cs → DpAll K H xs (cs.map chD)
  | [], [], _ => .nil
  | [], x :: xs, h => by cases h.len
  | c :: cs, [], h => by cases h.len
  | c :: cs, x :: xs, h => by
    obtain ⟨t, t1, t2⟩ := h.at_ 0 c rfl
    cases (Option.some.inj t1)
    exact .cons (.tup (SqT.of t2) (.cons (.int _) (.cons (.int _) .nil))) (chDp cs xs ⟨Nat.succ.inj h.len, fun i q e => h.at_ (i + 1) q e⟩)
section
variable {P : Program} {w : World} {K : PySem.W.Frag} {mg : Str → Option Value} {base : Heap} {C CL CP fK CE : Addr}
/-- the boxes, as they are laid -/
structure BxsX (H0 H : Hp) (ps : List Addr) (ws : List Int) (ow pc : List Nat) (vl : List Int) (ks : List Nat) : Prop where
  len : ps.length = ws.length
  at_ : ∀ (q : Nat) (p : Addr), ps[q]? = some p → H0 p = none ∧ ∃ xs, H p = some (.lst xs) ∧ ChX H xs (bxL ws ow pc vl ks q) ∧ ∀ (k : Nat) (t : Addr), xs[k]? = some (.ref t) → H0 t = none
theorem BxsX.same {H0 H H' : Hp} {ps : List Addr} {ws : List Int} {ow pc : List Nat} {vl : List Int} {ks : List Nat} (b : BxsX H0 H ps ws ow pc vl ks) (s : Same H H') : BxsX H0 H' ps ws ow pc vl ks :=
  ⟨b.len, fun q p hp => by
    obtain ⟨h1, xs, h2, h3, h4⟩ := b.at_ q p hp
    exact ⟨h1, xs, s _ _ h2, h3.kp (KT.of s), h4⟩⟩
def bxsD (ws : List Int) (ow pc : List Nat) (vl : List Int) (ks : List Nat) : List PyData := (List.range ws.length).map fun q => PyData.list ((bxL ws ow pc vl ks q).map chD)
theorem bxs_dp {K : PySem.W.Frag} {H : Hp} {ps : List Addr} {ws : List Int} {ow pc : List Nat} {vl : List Int} {ks : List Nat} (len : ps.length = ws.length) (r : ∀ (q : Nat) (p : Addr), ps[q]? = some p → ∃ xs, H p = some (.lst xs) ∧ ChX H xs (bxL ws ow pc vl ks q)) : DpAll K H (ps.map V.ref) (bxsD ws ow pc vl ks) := by
  have go : ∀ (qs : List Nat) (ps : List Addr), ps.length = qs.length → (∀ (i : Nat) (p : Addr) (q : Nat), ps[i]? = some p → qs[i]? = some q → ∃ xs, H p = some (.lst xs) ∧ ChX H xs (bxL ws ow pc vl ks q)) → DpAll K H (ps.map V.ref) (qs.map fun q => PyData.list ((bxL ws ow pc vl ks q).map chD)) := by
    intro qs
    induction qs with
    | nil =>
      intro ps h _
      cases ps with
      | nil => exact .nil
      | cons p ps => cases h
    | cons q qs ih =>
      intro ps h r
      cases ps with
      | nil => cases h
      | cons p ps =>
        obtain ⟨xs, h1, h2⟩ := r 0 p q rfl rfl
        exact .cons (.lst (SqL.of h1) (chDp _ _ h2)) (ih ps (Nat.succ.inj h) fun i p' q' e1 e2 => r (i + 1) p' q' e1 e2)
  refine go (List.range ws.length) ps (by rw [List.length_range]; exact len) fun i p q e1 e2 => ?_
  have hi : i < ws.length := by
    by_cases h : i < ws.length
    · exact h
    · rw [List.getElem?_eq_none (by rw [List.length_range]; omega)] at e2
      cases e2
  rw [List.getElem?_range hi] at e2
  cases e2
  exact r i p e1
theorem chOk {c : Nat × Int} (h1 : c.1 ≤ 2000) (h2 : -big30 ≤ c.2 ∧ c.2 ≤ big30) : Okd (chD c) 200 1 := by
  refine (okTuple (ds := [.int ((c.1 : Nat) : Int), .int c.2]) (m := 50) (e := 0) (n := 2) (fun d hd => ?_) (Nat.le_refl 2)).up (by decide) (by decide)
  rcases List.mem_cons.mp hd with rfl | hd
  · exact num2k h1
  rcases List.mem_cons.mp hd with rfl | hd
  · exact wtOk h2
  cases hd
theorem bxL_mem {ws : List Int} {ow pc : List Nat} {vl : List Int} {ks : List Nat} {q : Nat} {c : Nat × Int} (g : Bg ws vl) (h : c ∈ bxL ws ow pc vl ks q) : c.1 ≤ ow.length ∧ -big30 ≤ c.2 ∧ c.2 ≤ big30 := by
  unfold bxL bxS at h
  obtain ⟨e, he, rfl⟩ := List.mem_map.mp h
  have h1 := List.mem_range.mp (List.mem_filter.mp he).1
  refine ⟨by show e ≤ _; omega, ?_⟩
  show -big30 ≤ wv ws vl q e ∧ wv ws vl q e ≤ big30
  unfold wv
  split
  · exact big_getD g.w _
  · exact big_getD g.v _
theorem bxL_len (ws : List Int) (ow pc : List Nat) (vl : List Int) (ks : List Nat) (j : Nat) : (bxL ws ow pc vl ks j).length ≤ ow.length + 1 := by
  unfold bxL bxS
  rw [List.length_map]
  refine Nat.le_trans (List.length_filter_le ..) ?_
  rw [List.length_range]
  exact Nat.le_refl _
theorem bxOk {ws : List Int} {ow pc : List Nat} {vl : List Int} {ks : List Nat} (g : Bg ws vl) (few : ow.length ≤ 63) (q : Nat) : Okd (.list ((bxL ws ow pc vl ks q).map chD)) 20000 2 := by
  refine (okList (m := 200) (e := 1) (n := 64) (fun d hd => ?_) (by rw [List.length_map]; have := bxL_len ws ow pc vl ks q; omega)).up (by decide) (by decide)
  obtain ⟨c, hc, rfl⟩ := List.mem_map.mp hd
  obtain ⟨a, b⟩ := bxL_mem g hc
  exact chOk (by omega) b
theorem bxsOk {ws : List Int} {ow pc : List Nat} {vl : List Int} {ks : List Nat} (g : Bg ws vl) (few : ow.length ≤ 63) (h : ws.length ≤ 16) : Okd (.list (bxsD ws ow pc vl ks)) 400000 3 := by
  refine (okList (m := 20000) (e := 2) (n := 16) (fun d hd => ?_) (by unfold bxsD; rw [List.length_map, List.length_range]; exact h)).up (by decide) (by decide)
  obtain ⟨q, _, rfl⟩ := List.mem_map.mp hd
  exact bxOk g few q
theorem lens_sum : ∀ l : List Nat, (∀ x, x ∈ l → x ≤ 64) → ∃ s : Nat, s ≤ 64 * l.length ∧ (l.map fun n : Nat => (n : Int)).sum = (s : Nat)
  | [], _ => ⟨0, Nat.le_refl _, rfl⟩
  | x :: l, h => by
    obtain ⟨s, h1, h2⟩ := lens_sum l fun y hy => h y (List.mem_cons_of_mem _ hy)
    have hx := h x (List.mem_cons_self ..)
    refine ⟨x + s, by rw [List.length_cons]; omega, ?_⟩
    rw [List.map_cons, List.sum_cons, h2]
    omega
theorem can_chs (cs : List (Nat × Int)) : PyData.canLay0 (.list (cs.map chD)) = true := by
  simp only [PyData.canLay0]
  induction cs with
  | nil => simp [PyData.canLayAll0]
  | cons x xs ih => simp [PyData.canLayAll0, PyData.canLay0, chD, ih]
theorem sh_chs (cs : List (Nat × Int)) : SeqAt.shaped (.list (cs.map chD)) = true := by
  have e : PyData.depthAll (cs.map chD) ≤ 1 := by
    induction cs with
    | nil => simp [PyData.depthAll]
    | cons x xs ih =>
      rw [List.map_cons, PyData.depthAll]
      have : (chD x).depth = 1 := by simp [chD, PyData.depth, PyData.depthAll]
      omega
  unfold SeqAt.shaped
  rw [can_chs, Bool.true_and]
  refine decide_eq_true ?_
  rw [PyData.depth]
  omega
end
end K41
/-! An own error whose __init__ says super().__init__(a text), then keeps two things, low and high. -/
namespace Gr
open PySem PySem.W PySem.Calls PyProof.Rows PySem.HandSPX
def iA (p1 p2 p3 : Pos) : Arguments := { posonlyargs := [], args := [{ arg := "self", annotation := none, pos := p1 }, { arg := "low", annotation := none, pos := p2 }, { arg := "high", annotation := none, pos := p3 }], vararg := none, kwonlyargs := [], kw_defaults := [], kwarg := none, defaults := [] }
def iB (msg : Str) (kk : Nat) (p1 p2 p3 p4 p5 p6 q1 q2 q3 q4 s1 s2 s3 s4 : Pos) : List Stmt :=
  [.Expr (.Call (.Attribute (.Call (.Name "super" p1) [] [] p2) "__init__" p3) [.Constant (.str msg) kk p4] [] p5) p6,
   .Assign [.Attribute (.Name "self" q1) "low" q2] (.Name "low" q3) q4, .Assign [.Attribute (.Name "self" s1) "high" s2] (.Name "high" s3) s4]
def iS : Scope := { kind := .function, names := [(PySem.Str.ofString "self", .local), (PySem.Str.ofString "low", .local), (PySem.Str.ofString "high", .local), (PySem.Str.ofString "__class__", .free), (PySem.Str.ofString "super", .globalImplicit)], isGenerator := false, isCoroutine := false, more := [] }
/-- what the written part says of the class at C and of its __init__ at fI -/
structure ErrTxt2 (P : Program) (K : Frag) (C fI : Addr) (qn msg : Str) : Prop where
  cls : ∃ nm q N bs bm sn sub ab col dd k0 k1 k2 k3 k5, K.lookup C = some (excClassObj nm q C N bs bm true sn sub ab col dd k0 k1 k2 k3 k5 "ValueError.__new__") ∧ refsVE bm = true
  sa : findIn K (.ref C) "__setattr__" = some (some (.builtin "object.__setattr__"))
  ga : findIn K (.ref C) "__getattribute__" = some (some (.builtin "BaseException.__getattribute__"))
  gg : findIn K (.ref C) "__getattr__" = some none
  noN : findIn K (.ref C) "low" = some none
  noM : findIn K (.ref C) "high" = some none
  iC : findIn K (.ref C) "__init__" = some (some (.ref fI))
  tC : typeIn K (.ref fI) = some (.type "function")
  kC : keepIn K (.ref C) = true
  exC : subIn K (.ref C) (.type "BaseException") = some true
  veC : subIn K (.ref C) (.type "ValueError") = some true
  tyC : typeIn K (.ref C) = some (.type "type")
  hdC : hasDictIn K C = true
  sub : mroIn K C (.ref C) = some true
  sup : ks_superIn K C C "__init__" = some (some (.builtin "ValueError.__init__"))
  op : nsIn K cStatics "thirdparty.any" = some none
  zs : nsIn K mainGlobals "super" = some none
  htop : (P.main.scope.names.lookup ("super" : Str)).isSome = false
  fn : ∃ (oc : Value) (od : Option Addr) (doc pm : Value) (an : Option Addr) (cda cc : Addr) (ct : Value) (osl : Array (Option Value)) (kk : Nat) (p1 p2 p3 p4 p5 p6 q1 q2 q3 q4 s1 s2 s3 s4 r1 r2 r3 : Pos) (ccl cl : Value) (cdd cld : Option Addr) (vs : Array Value) (ccs csl : Array (Option Value)) (file : Str) (tf : Tok),
    K.lookup fI = some ⟨oc, od, .func (ksFn "__init__" qn (iA r1 r2 r3) (iB msg kk p1 p2 p3 p4 p5 p6 q1 q2 q3 q4 s1 s2 s3 s4) iS .none .none doc pm an (.ref cda) ct cc), osl⟩ ∧ codeIn K (.ref cda) qn = true ∧
    K.lookup cda = some ⟨ccl, cdd, .fields vs, ccs⟩ ∧ vs[2]? = some (.str file tf) ∧ ((P.main.file : Str) == file) = true ∧
    K.lookup cc = some ⟨cl, cld, .cell (some (.ref C)), csl⟩ ∧ (p3.endLine == p5.line) = true
/-- what __init__ leaves of a fresh exception at x -/
structure InitEnd (h h' : Heap) (x C dx t1 : Addr) (v v2 : Value) : Prop where
  keep : ∀ b o, b ≠ x → h.get? b = some o → h'.get? b = some o
  obj : h'.get? x = some { cls := .ref C, dict := some dx, data := .fields #[.ref t1, .none, .none, .none, .bool false, .none] }
  dbig : h.objs.size ≤ dx
  dne : dx ≠ x
  ns : h'.Ns1 dx (fun y => if y = "high" then some v2 else if y = "low" then some v else none)
theorem iS_nocell : ∀ y ∈ iS.names, y.2 ≠ .cell := by decide +kernel
theorem iS_loc (x v v2 : Value) : ∀ y ∈ ([(PySem.Str.ofString "self", x), (PySem.Str.ofString "low", v), (PySem.Str.ofString "high", v2)] : List (Str × Value)), iS.names.lookup y.1 = some .local := by
  intro y hy
  simp only [List.mem_cons, List.not_mem_nil, or_false] at hy
  rcases hy with rfl | rfl | rfl
  · exact (by decide +kernel : iS.names.lookup (PySem.Str.ofString "self") = some .local)
  · exact (by decide +kernel : iS.names.lookup (PySem.Str.ofString "low") = some .local)
  · exact (by decide +kernel : iS.names.lookup (PySem.Str.ofString "high") = some .local)
/-- o.name(..) in a body that is known to run, the call's line told -/
theorem at_method {M : Model} {A : Around} {c : Code} {E : Value → Shared → Prop} {s : Shared} {env : Env} {o : Expr} {name : Str} {apos pos : Pos} {args : List Expr} {Q : Value → Shared → Prop}
    (hl : (apos.endLine == pos.line) = true) (hf : methodCallForm (args.length + ([] : List Keyword).length) (backTo pos (starEach args env)) (backToKw pos (keywordEach [] env)) = true)
    (h : _root_.PySem.wpAt M A c (attributeBase o name env (eval o env)) (fun ov s₁ => wpAny M A (getMethod ov name (do return (← importBound o env).getD true))
      (fun fx s₂ => wpAny M A (callWith pos fx.1 fx.2 (backTo pos (starEach args env)) (backToKw pos (keywordEach [] env))) Q E s₂) E s₁) E s) :
    _root_.PySem.wpAt M A c (eval (.Call (.Attribute o name apos) args [] pos) env) Q E s := by
  rw [arm_eval_Call]
  apply _root_.PySem.wpAt_bind
  apply _root_.PySem.wpAt_mono h
  · intro ov s₁ h₁
    apply _root_.PySem.wpAt_of_wpAny
    apply wpAny_bind
    apply wpAny_standAt
    have hp : methodCallPos true o env apos pos = pure pos := by
      unfold methodCallPos
      simp [hl]
    unfold methodCall
    rw [hf]
    apply wpAny_bind
    apply wpAny_holding
    apply wpAny_mono h₁
    · intro fx s₂ h₂
      exact wpAny_bind (wpAny_of_eq hp h₂)
    · intro _ _ z
      exact z
  · intro _ _ z
    exact z
section
variable {prog : Program} {w : World} {A : Around} {E : Value → Shared → Prop} {R : Result → Shared → Prop} {s : Shared} {K : Frag} {mg mb : Str → Option Value} {C fI : Addr} {qn msg : Str}
theorem sup_call {h : Heap} {g : Array GenState} {d : Drawn} {t : Nat} {os : OsState} {u e t0 : Addr} {one : Value} {Q : Value → Shared → Prop}
    {nm q : Str} {N : Addr} {bs bm sub : List Value} {sn : List Str} {ab : Bool} {col : Option Bool} {dd : Option Addr} {k0 k1 k2 k3 k5 : Option Value}
    (hC : h.get? C = some (excClassObj nm q C N bs bm true sn sub ab col dd k0 k1 k2 k3 k5 "ValueError.__new__")) (he : h.get? e = some (excO C t0)) (hu : h.get? u = some (kxs_mw "ValueError.__init__" e))
    (hq : ∀ h' t1, (∀ b o, b ≠ e → h.get? b = some o → h'.get? b = some o) → h'.get? e = some (excO C t1) → Q .none ⟨h', g, d, t, os⟩) :
    wpAny (model prog w) A (call (.ref u) [one]) Q E ⟨h, g, d, t, os⟩ := by
  refine wpAny_call (codeAny_of_tree (show wpAny _ (Around.in1 _) (callAny (.ref u) ⟨[one], []⟩) _ _ _ from ?_))
  have e1 : (Value.type "method-wrapper" == Value.type "method" || Value.type "method-wrapper" == Value.type "builtin_function_or_method" || Value.type "method-wrapper" == Value.type "method-wrapper") = true := by decide
  simp only [callAny]
  refine wpAny_bind (m := load u) (wpAny_load hu ?_)
  simp only [kxs_mw, e1, if_true]
  refine (KFB.if_so (by decide) (wpAny_bind (check_bound_init F.excBase_ValueError.toExcCallFacts hC he rfl ?_)))
  refine (wpAny_bind (wpAny_pure (wpAny_pure (And.intro (plainId_quiet F.excBase_ValueError.init.plain _) (codeAny_builtin F.excBase_ValueError.initEntry ?_)))))
  have lz : [one].length ≤ sizeLine := by
    rw [sizeLine_eq]
    exact (by decide : 1 ≤ 16777216)
  exact exc_init_tree (cls := .ref C) (t0 := t0) (dv := none) (c2 := .none) (c3 := .none) (b4 := .bool false) he lz (fun h₄ k₄ hx₄ _ => hq h₄ _ k₄ hx₄)
theorem err_init (T : ErrTxt2 prog K C fI qn msg) {x t0 : Addr} {v v2 : Value} (X : K.In s.heap) (lim : s.heap.NoLimit) (gl : s.heap.Ns mainGlobals mg) (bl : s.heap.Ns builtinsNs mb)
    (bb : ∀ x : Str, x ≠ "__name__" → mb x = bootBuiltins x) (hx : s.heap.get? x = some (excO C t0)) (hnx : K.lookup x = none) (room : A.depth < recursionLimit)
    (hq : ∀ h' tk dx t1, InitEnd s.heap h' x C dx t1 v v2 → R (.ok (.ret .none)) { s with heap := h', toks := tk }) :
    codeAny (model prog w) A (.call (.ref fI) ⟨[.ref x, v, v2], []⟩) R s := by
  obtain ⟨oc, od, doc, pm, an, cda, cc, ct, osl, kk, p1, p2, p3, p4, p5, p6, q1, q2, q3, q4, s1', s2', s3', s4', r1, r2, r3, ccl, cl, cdd, cld, vs, ccs, csl, file, tf, ho, hcd, hcode, hvs, hfile, hcell, hline⟩ := T.fn
  obtain ⟨nm, q, N, bs, bm, sn, sub, ab, col, dd, k0, k1, k2, k3, k5, hC, hbm⟩ := T.cls
  have hzs := mg_none_of X gl T.zs
  obtain ⟨hp, g, dr, tk, os⟩ := s
  refine ks_codeAny_call_defAt (binds := [("self", .ref x), ("low", v), ("high", v2)]) room (X _ _ ho) rfl lim (codeRec_of X hcd) rfl (BindsTo.of_eq (by first | rfl | with_unfolding_all rfl)) iS_nocell (iS_loc _ _ _) (fun h₁ hns k₁ => ?_) rfl rfl rfl
  have X₁ : K.In h₁ := X.keeps k₁
  have hx₁ := k₁ _ _ hx
  refine ks_wpAt_execs_cons (ks_wpAt_Expr_any (at_method hline (by first | rfl | with_unfolding_all rfl) ?_))
  refine ks_wpAt_super_base rfl rfl (by decide) rfl (X₁ _ _ ho) rfl rfl rfl (X₁ _ _ hcode) rfl hvs hfile T.htop ?_
  refine ks_loadName_global rfl rfl (loadGlobal_builtin (gl.keeps k₁) hzs (bl.keeps k₁) ((bb _ (by decide +kernel)).trans (by decide +kernel : bootBuiltins "super" = some (.type "super"))) ⟨rfl, ?_⟩)
  refine wpAny_loadName_free rfl rfl rfl ⟨_, X₁ _ _ hcell, rfl⟩ ?_
  refine wpAny_loadName_local rfl rfl hns (v := .ref x) (by first | rfl | with_unfolding_all rfl) ?_
  refine ks_wpAny_isType_cls (X₁ _ _ hC) rfl ⟨rfl, ?_⟩
  refine ks_wpAny_call_super (X₁ _ _ hC) rfl hx₁ rfl (fun c e => nomatch e) (looks_mroIn X₁ T.sub) (fun h₂ e₂ k₂ => ?_)
  have X₂ : K.In h₂ := X₁.keeps k₂
  have hx₂ := k₂ _ _ hx₁
  have I₂ : InstAt h₂ x (excO C t0) C none := ⟨hx₂, rfl, rfl, trivial⟩
  have hcl : clsIn K C = some { name := nm, bases := bs, mro := .ref C :: bm, ns := N, qualname := q, hasDict := true, slotNames := sn, subclasses := sub, abstract := ab, collection := col, hasDel := false } := by
    unfold clsIn
    rw [hC]
    all_goals rfl
  have hm := T.sup
  unfold ks_superIn at hm
  rw [hcl] at hm
  have hI : Looks (model prog w) h₂ (isInstance (.ref x) (.type "ValueError")) true := I₂.type.andThen (looks_subIn X₂ T.veC)
  have hxC : x ≠ C := fun z => by
    rw [z, hC] at hnx
    cases hnx
  refine kxs_getMethod kxs_ValueError e₂ (looks_opaque X₂ T.op) (l₀ := .ref C :: bm) ?_ rfl X₂ hm hI hxC (by decide +kernel) ?_
  · exact fun A Q E s k q => wpAny_bind ((looks_clsIn X₂ hcl) A _ E s k (wpAny_pure q))
  have hu : (h₂.push (kxs_mw "ValueError.__init__" x)).get? h₂.objs.size = some (kxs_mw "ValueError.__init__" x) := Heap.get?_push_at rfl rfl
  have k₃ : ∀ b o, h₂.get? b = some o → (h₂.push (kxs_mw "ValueError.__init__" x)).get? b = some o := fun b o e => Heap.get?_push_of_some _ e
  have X₃ : K.In (h₂.push (kxs_mw "ValueError.__init__" x)) := X₂.keeps k₃
  have hx₃ := k₃ _ _ hx₂
  refine kxs_callWith (i := "ValueError.__init__") (x := x) (by rfl) (evalArgs_plain ?_)
  refine Calls.spliced_cons (Calls.Constant_str (k := kk) (pos := p4) ?_)
  refine Calls.spliced_nil ⟨hu, ?_⟩
  refine sup_call (X₃ _ _ hC) hx₃ hu (fun h₄ t1 k₄ hx₄ => ?_)
  -- self.low = found
  have X₄ : K.In h₄ := fun a o e => k₄ a o (fun z => by rw [z, hnx] at e; cases e) (X₃ a o e)
  have hLx : hp.objs.size ≠ x := Nat.ne_of_gt (Heap.lt_size hx)
  have hn₄ := hns
  obtain ⟨oL, es, ep, eL, rL⟩ := hn₄
  have hn₄ : h₄.Ns hp.objs.size _ := ⟨oL, es, ep, k₄ _ _ hLx (k₃ _ _ (k₂ _ _ eL)), rL⟩
  have big : hp.objs.size < h₄.objs.size := hn₄.lt
  show _root_.PySem.wpAt _ _ _ (execs _ _) _ _ _
  refine _root_.PySem.wpAt_of_wpAny (wpAny_execs_cons (plainObj_wpAny_Assign_Attribute ?_))
  refine wpAny_Name (wpAny_loadName_local rfl rfl hn₄ (v := v) (by first | rfl | with_unfolding_all rfl) ?_) (by decide)
  refine wpAny_Name (wpAny_loadName_local rfl rfl hn₄ (v := .ref x) (by first | rfl | with_unfolding_all rfl) ?_) (by decide)
  refine set_plain X₄ (ox := excO C t1) (od := none) ⟨hx₄, rfl, rfl, trivial⟩ T.sa ?_
  refine HandSPX.exc_osa X₄ hx₄ hcl (show refsVE (.ref C :: bm) = true from hbm) rfl T.noN (fun h₅ tk₅ dx k₅ dn dne hx₅ hn₅ => ?_)
  -- self.high = high
  have X₅ : K.In h₅ := fun a o e => k₅ a o (fun z => by rw [z, hnx] at e; cases e) (X₄ a o e)
  have hn₅' : h₅.Ns hp.objs.size _ := ⟨oL, es, ep, k₅ _ _ hLx (k₄ _ _ hLx (k₃ _ _ (k₂ _ _ eL))), rL⟩
  have hdL : dx ≠ hp.objs.size := fun z => by
    rw [z] at dn
    exact absurd (Nat.lt_of_lt_of_le big dn) (Nat.lt_irrefl _)
  show wpAny _ _ (execs _ _) _ _ _
  refine wpAny_execs_cons (plainObj_wpAny_Assign_Attribute ?_)
  refine wpAny_Name (wpAny_loadName_local rfl rfl hn₅' (v := v2) (by first | rfl | with_unfolding_all rfl) ?_) (by decide)
  refine wpAny_Name (wpAny_loadName_local rfl rfl hn₅' (v := .ref x) (by first | rfl | with_unfolding_all rfl) ?_) (by decide)
  obtain ⟨oD, hoD⟩ : ∃ oD, h₅.get? dx = some oD := by
    obtain ⟨oD, es, ep, e, _⟩ := hn₅
    exact ⟨oD, e⟩
  refine set_plain X₅ (ox := { cls := .ref C, dict := some dx, data := .fields #[.ref t1, .none, .none, .none, .bool false, .none] }) (od := some oD) ⟨hx₅, rfl, rfl, hoD⟩ T.sa ?_
  refine OEX.osa_old (nl := [("low" : Str)]) X₅ hx₅ hn₅ (fun y h => ?_) (by decide) hcl (show refsVE (.ref C :: bm) = true from hbm) rfl T.noM (fun h₆ tk₆ k₆ hn₆ => ?_)
  · by_cases hy : y = ("low" : Str)
    · rw [hy]
      exact List.mem_cons_self
    · exact absurd (if_neg hy) h
  show wpAny _ _ (execs _ _) _ _ _
  have hdx : x ≠ dx := fun z => dne z.symm
  exact wpAny_execs_nil (hq h₆ tk₆ dx t1 ⟨fun b o hb e => k₆ b o (fun z => absurd (Nat.lt_of_lt_of_le (Heap.lt_size (z ▸ e : hp.get? dx = some o)) (Nat.le_trans (Nat.le_of_lt big) dn)) (Nat.lt_irrefl _)) (k₅ b o hb (k₄ b o hb (k₃ b o (k₂ b o (k₁ b o e))))), k₆ _ _ hdx hx₅, Nat.le_trans (Nat.le_of_lt big) dn, dne, hn₆⟩)
/-- an error that was made: its own dict d holds the thing -/
structure OwnMade (h h' : Heap) (e C d : Addr) (v v2 : Value) : Prop where
  keep : ∀ b o, h.get? b = some o → h'.get? b = some o
  new : h.objs.size ≤ e
  obj : ∃ oe vs, h'.get? e = some oe ∧ oe.cls = .ref C ∧ oe.dict = some d ∧ oe.data = .fields vs ∧ vs[1]? = some .none
  dbig : h.objs.size ≤ d
  dne : d ≠ e
  ns : h'.Ns1 d (fun y => if y = "high" then some v2 else if y = "low" then some v else none)
theorem two_size (v v2 : Value) : [v, v2].length ≤ sizeLine := by
  rw [sizeLine_eq]
  exact (by decide : 2 ≤ 16777216)
theorem err_made (T : ErrTxt2 prog K C fI qn msg) {v v2 : Value} (X : K.In s.heap) (lim : s.heap.NoLimit) (gl : s.heap.Ns mainGlobals mg) (bl : s.heap.Ns builtinsNs mb)
    (bb : ∀ x : Str, x ≠ "__name__" → mb x = bootBuiltins x) (room : A.depth + 1 < recursionLimit)
    (hq : ∀ h' tk e d, OwnMade s.heap h' e C d v v2 → R (.ok (.ret (.ref e))) { s with heap := h', toks := tk }) :
    codeAny (model prog w) A (.call (.ref C) ⟨[v, v2], []⟩) R s := by
  obtain ⟨nm, q, N, bs, bm, sn, sub, ab, col, dd, k0, k1, k2, k3, k5, hC, hbm⟩ := T.cls
  obtain ⟨hp, g, dr, tk, os⟩ := s
  have k : ∀ b o, hp.get? b = some o → ((hp.push (kdv_tup [v, v2])).push (excO C hp.objs.size)).get? b = some o := fun b o e => Heap.get?_push_of_some _ (Heap.get?_push_of_some _ e)
  have hget : ((hp.push (kdv_tup [v, v2])).push (excO C hp.objs.size)).get? (hp.objs.size + 1) = some (excO C hp.objs.size) := by heap_get
  have hnx : K.lookup (hp.objs.size + 1) = none := by
    cases e : K.lookup (hp.objs.size + 1) with
    | none => rfl
    | some o =>
      have z : hp.get? (hp.objs.size + 1) = some o := X _ _ e
      exact absurd (Nat.lt_of_succ_lt (Heap.lt_size z)) (Nat.lt_irrefl _)
  refine HandSPX.call_own F.excBase_ValueError (fun X => refsVE_contains X bm hbm) (X _ _ hC) (looks_findIn X T.iC) (fun self => bind_fn X self T.tC) (two_size v v2) ?_
  refine err_init (s := ⟨(hp.push (kdv_tup [v, v2])).push (excO C hp.objs.size), g, dr, tk, os⟩) T (X.keeps k) (lim.keeps k) (gl.keeps k) (bl.keeps k) bb hget hnx ?_ fun h' tk' dx t1 ⟨k', hx, dn, dne, hns⟩ => ?_
  · show A.depth + 1 < recursionLimit
    exact room
  · have old : ∀ b o, hp.get? b = some o → h'.get? b = some o := fun b o e => k' b o (Nat.ne_of_lt (Nat.lt_succ_of_lt (Heap.lt_size e))) (k b o e)
    have z : hp.objs.size + 1 + 1 ≤ dx := by
      first
        | (simpa only [Heap.size_push] using dn)
        | exact dn
        | (have q := dn; rw [Heap.size_push, Heap.size_push] at q; exact q)
    exact ⟨rfl, hq h' tk' (hp.objs.size + 1) dx ⟨old, Nat.le_succ _, ⟨_, _, hx, rfl, rfl, rfl, rfl⟩, Nat.le_trans (Nat.le_trans (Nat.le_succ _) (Nat.le_succ _)) z, dne, hns⟩⟩
end
end Gr
namespace Gr
open PySem PySem.Spec PyProof.Rows L2
theorem relO_f2 {v v2 : V} {v' v2' : Value} (r : RelV v v') (r2 : RelV v2 v2') (f : Str) : RelO (List.lookup f [(("low" : Str), v), (("high" : Str), v2)]) (if f = "high" then some v2' else if f = "low" then some v' else none) := by
  by_cases hw : f = "low"
  · subst hw
    have q : List.lookup ("low" : Str) [(("low" : Str), v), (("high" : Str), v2)] = some v := by simp [List.lookup]
    rw [q, if_neg (by decide), if_pos rfl]
    exact r
  · have qw : (f == ("low" : Str)) = false := by simpa using hw
    by_cases hh : f = "high"
    · subst hh
      have q : List.lookup ("high" : Str) [(("low" : Str), v), (("high" : Str), v2)] = some v2 := by simp [List.lookup, qw]
      rw [q, if_pos rfl]
      exact r2
    · have qh : (f == ("high" : Str)) = false := by simpa using hh
      have q2 : List.lookup f [(("low" : Str), v), (("high" : Str), v2)] = none := by simp [List.lookup, qw, qh]
      rw [q2, if_neg hh, if_neg hw]
      trivial
section
variable {X : Cx} {C fI : Addr} {qn msg cn : Str}
/-- E(low, high) -/
def tMkE2 (C : Addr) (ta : TA) : L2.St → Hp → XK → Prop := fun σ H Q => ta σ H fun vs H1 => ∃ v v2, vs = [v, v2] ∧ ∀ d, H1 d = none → Q (.ref C) (some d) (upd H1 d (.xd [(("low" : Str), v), (("high" : Str), v2)]))
theorem pmk_err2 {a b : Expr} {ta : TA} {p pos : Pos} {k : Nat} (T : ErrTxt2 X.prog X.K C fI qn msg) (gC : X.mg cn = some (.ref C)) (hr : Room k X.A) (ha : PA X [a, b] ta) (hg : Gl X cn)
    (hdb : (cn == ("__debug__" : Str)) = false := by decide)
    (he : starEach (a :: [b]) X.env = (false, eval a X.env) :: starEach [b] X.env := by rfl) (hpl : (backTo pos (starEach [b] X.env)).any (·.1) = false := by rfl) :
    PMk X (.Call (.Name cn p) [a, b] [] pos) (tMkE2 C ta) := by
  intro pins s σ H Q I h
  apply wpAny_Call_Name_kw
  apply ld_glob I hg gC (hd := hdb)
  refine PySem.W.callWith_K (h₀ := X.base) I.ok.mod.kin T.kC (thn (ha.run pos pins s σ H _ I h) ?_) he hpl
  rintro us s1 ⟨vs, H1, I1, r1, v, v2, ev, q1⟩
  subst ev
  refine ⟨I1.kIn, ?_⟩
  cases r1 with
  | cons rv rn =>
    rename_i v' us'
    cases rn with
    | cons rv2 rn =>
    rename_i v2' us'
    cases rn
    show wpAny _ _ (call (.ref C) [v', v2']) _ _ _
    have hlim := I1.nolimit
    have hgl := I1.mod.glob.keeps I1.bk
    obtain ⟨mb, hbl0, hbb⟩ := I1.mod.blt
    have hbl := hbl0.keeps I1.bk
    obtain ⟨hp, g, dr, tk, os⟩ := s1
    refine wpAny_call (err_made T I1.kIn hlim hgl hbl hbb (by have := hr.dp; omega) fun h' tk' e d M => ?_)
    show MkP X pins σ Q (.ref e) ⟨h', g, dr, tk', os⟩
    obtain ⟨oe, fv, hoe, hc, hd, hdat, h1⟩ := M.obj
    have hns := M.ns
    obtain ⟨G', g1, g2⟩ := restrict h' fun b => decide (b ≠ e)
    have gk : ∀ b, b ≠ e → G'.get? b = h'.get? b := fun b hb => g1 b (decide_eq_true hb)
    have ge : G'.get? e = none := g2 e (by simp)
    have old : ∀ b o, hp.get? b = some o → G'.get? b = some o := fun b o q => (gk b (Nat.ne_of_lt (Nat.lt_of_lt_of_le (Heap.lt_size q) M.new))).trans (M.keep b o q)
    have ob : ObjOk X.prog X.w (upd H1 d (.xd [(("low" : Str), v), (("high" : Str), v2)])) G' d (.xd [(("low" : Str), v), (("high" : Str), v2)]) :=
      ⟨_, hns.at (fun o q => (gk d M.dne).trans q), fun f => relO_f2 rv rv2 f⟩
    have J : Inv X pins σ (upd H1 d (.xd [(("low" : Str), v), (("high" : Str), v2)])) ⟨G', g, dr, tk', os⟩ := I1.laid (t' := tk') old M.dbig ob
    refine ⟨e, oe, fv, ⟨G', g, dr, tk', os⟩, _, .ref C, some d, rfl, J, fun b o q => ?_, ge, hoe, ⟨hc, hd⟩, hdat, h1, ?_, rfl, I1.bare, raises_own T.exC T.tyC, q1 d (I1.hok.fresh M.dbig)⟩
    · by_cases hb : b = e
      · have q' : G'.get? b = some o := q
        rw [hb, ge] at q'
        cases q'
      · exact (gk b hb).symm.trans q
    · rw [upd_ne (Ne.symm M.dne)]
      exact I1.hok.fresh M.new
/-- raise E(low, high) -/
def tRaiseE2 (C : Addr) (W : WX) (ta : TA) : TS := fun _ σ H => tMkE2 C ta σ H fun cls d H' => W cls d σ H'
theorem ps_raiseE2 {a b : Expr} {ta : TA} {W : WX} {p pos pos2 : Pos} {k : Nat} (hc : X.calm = true) (T : ErrTxt2 X.prog X.K C fI qn msg) (gC : X.mg cn = some (.ref C)) (hr : Room k X.A) (tk : Takes X W) (ha : PA X [a, b] ta) (hg : Gl X cn)
    (hdb : (cn == ("__debug__" : Str)) = false := by decide)
    (he : starEach (a :: [b]) X.env = (false, eval a X.env) :: starEach [b] X.env := by rfl) (hpl : (backTo pos (starEach [b] X.env)).any (·.1) = false := by rfl) :
    PS X (.Raise (some (.Call (.Name cn p) [a, b] [] pos)) none pos2) (tRaiseE2 C W ta) := ps_raise hc tk (pmk_err2 T gC hr ha hg hdb he hpl)
end
end Gr
/-! An own error whose __init__ says super().__init__(a text), then keeps the one thing it is made of. -/
namespace Gk
open PySem PySem.W PySem.Calls PyProof.Rows PySem.HandSPX
def iA (p1 p2 : Pos) : Arguments := { posonlyargs := [], args := [{ arg := "self", annotation := none, pos := p1 }, { arg := "count", annotation := none, pos := p2 }], vararg := none, kwonlyargs := [], kw_defaults := [], kwarg := none, defaults := [] }
def iB (msg : Str) (kk : Nat) (p1 p2 p3 p4 p5 p6 q1 q2 q3 q4 : Pos) : List Stmt :=
  [.Expr (.Call (.Attribute (.Call (.Name "super" p1) [] [] p2) "__init__" p3) [.Constant (.str msg) kk p4] [] p5) p6,
   .Assign [.Attribute (.Name "self" q1) "count" q2] (.Name "count" q3) q4]
def iS : Scope := { kind := .function, names := [(PySem.Str.ofString "self", .local), (PySem.Str.ofString "count", .local), (PySem.Str.ofString "__class__", .free), (PySem.Str.ofString "super", .globalImplicit)], isGenerator := false, isCoroutine := false, more := [] }
/-- what the written part says of the class at C and of its __init__ at fI -/
structure ErrTxt (P : Program) (K : Frag) (C fI : Addr) (qn msg : Str) : Prop where
  cls : ∃ nm q N bs bm sn sub ab col dd k0 k1 k2 k3 k5, K.lookup C = some (excClassObj nm q C N bs bm true sn sub ab col dd k0 k1 k2 k3 k5 "ValueError.__new__") ∧ refsVE bm = true
  sa : findIn K (.ref C) "__setattr__" = some (some (.builtin "object.__setattr__"))
  ga : findIn K (.ref C) "__getattribute__" = some (some (.builtin "BaseException.__getattribute__"))
  gg : findIn K (.ref C) "__getattr__" = some none
  noN : findIn K (.ref C) "count" = some none
  iC : findIn K (.ref C) "__init__" = some (some (.ref fI))
  tC : typeIn K (.ref fI) = some (.type "function")
  kC : keepIn K (.ref C) = true
  exC : subIn K (.ref C) (.type "BaseException") = some true
  veC : subIn K (.ref C) (.type "ValueError") = some true
  tyC : typeIn K (.ref C) = some (.type "type")
  hdC : hasDictIn K C = true
  sub : mroIn K C (.ref C) = some true
  sup : ks_superIn K C C "__init__" = some (some (.builtin "ValueError.__init__"))
  op : nsIn K cStatics "thirdparty.any" = some none
  zs : nsIn K mainGlobals "super" = some none
  htop : (P.main.scope.names.lookup ("super" : Str)).isSome = false
  fn : ∃ (oc : Value) (od : Option Addr) (doc pm : Value) (an : Option Addr) (cda cc : Addr) (ct : Value) (osl : Array (Option Value)) (kk : Nat) (p1 p2 p3 p4 p5 p6 q1 q2 q3 q4 r1 r2 : Pos) (ccl cl : Value) (cdd cld : Option Addr) (vs : Array Value) (ccs csl : Array (Option Value)) (file : Str) (tf : Tok),
    K.lookup fI = some ⟨oc, od, .func (ksFn "__init__" qn (iA r1 r2) (iB msg kk p1 p2 p3 p4 p5 p6 q1 q2 q3 q4) iS .none .none doc pm an (.ref cda) ct cc), osl⟩ ∧ codeIn K (.ref cda) qn = true ∧
    K.lookup cda = some ⟨ccl, cdd, .fields vs, ccs⟩ ∧ vs[2]? = some (.str file tf) ∧ ((P.main.file : Str) == file) = true ∧
    K.lookup cc = some ⟨cl, cld, .cell (some (.ref C)), csl⟩ ∧ (p3.endLine == p5.line) = true
/-- what __init__ leaves of a fresh exception at x -/
structure InitEnd (h h' : Heap) (x C dx t1 : Addr) (v : Value) : Prop where
  keep : ∀ b o, b ≠ x → h.get? b = some o → h'.get? b = some o
  obj : h'.get? x = some { cls := .ref C, dict := some dx, data := .fields #[.ref t1, .none, .none, .none, .bool false, .none] }
  dbig : h.objs.size ≤ dx
  dne : dx ≠ x
  ns : h'.Ns1 dx (fun y => if y = "count" then some v else none)
theorem iS_nocell : ∀ y ∈ iS.names, y.2 ≠ .cell := by decide +kernel
theorem iS_loc (x v : Value) : ∀ y ∈ ([(PySem.Str.ofString "self", x), (PySem.Str.ofString "count", v)] : List (Str × Value)), iS.names.lookup y.1 = some .local := by
  intro y hy
  simp only [List.mem_cons, List.not_mem_nil, or_false] at hy
  rcases hy with rfl | rfl
  · exact (by decide +kernel : iS.names.lookup (PySem.Str.ofString "self") = some .local)
  · exact (by decide +kernel : iS.names.lookup (PySem.Str.ofString "count") = some .local)
/-- o.name(..) in a body that is known to run, the call's line told -/
theorem at_method {M : Model} {A : Around} {c : Code} {E : Value → Shared → Prop} {s : Shared} {env : Env} {o : Expr} {name : Str} {apos pos : Pos} {args : List Expr} {Q : Value → Shared → Prop}
    (hl : (apos.endLine == pos.line) = true) (hf : methodCallForm (args.length + ([] : List Keyword).length) (backTo pos (starEach args env)) (backToKw pos (keywordEach [] env)) = true)
    (h : _root_.PySem.wpAt M A c (attributeBase o name env (eval o env)) (fun ov s₁ => wpAny M A (getMethod ov name (do return (← importBound o env).getD true))
      (fun fx s₂ => wpAny M A (callWith pos fx.1 fx.2 (backTo pos (starEach args env)) (backToKw pos (keywordEach [] env))) Q E s₂) E s₁) E s) :
    _root_.PySem.wpAt M A c (eval (.Call (.Attribute o name apos) args [] pos) env) Q E s := by
  rw [arm_eval_Call]
  apply _root_.PySem.wpAt_bind
  apply _root_.PySem.wpAt_mono h
  · intro ov s₁ h₁
    apply _root_.PySem.wpAt_of_wpAny
    apply wpAny_bind
    apply wpAny_standAt
    have hp : methodCallPos true o env apos pos = pure pos := by
      unfold methodCallPos
      simp [hl]
    unfold methodCall
    rw [hf]
    apply wpAny_bind
    apply wpAny_holding
    apply wpAny_mono h₁
    · intro fx s₂ h₂
      exact wpAny_bind (wpAny_of_eq hp h₂)
    · intro _ _ z
      exact z
  · intro _ _ z
    exact z
section
variable {prog : Program} {w : World} {A : Around} {E : Value → Shared → Prop} {R : Result → Shared → Prop} {s : Shared} {K : Frag} {mg mb : Str → Option Value} {C fI : Addr} {qn msg : Str}
theorem sup_call {h : Heap} {g : Array GenState} {d : Drawn} {t : Nat} {os : OsState} {u e t0 : Addr} {one : Value} {Q : Value → Shared → Prop}
    {nm q : Str} {N : Addr} {bs bm sub : List Value} {sn : List Str} {ab : Bool} {col : Option Bool} {dd : Option Addr} {k0 k1 k2 k3 k5 : Option Value}
    (hC : h.get? C = some (excClassObj nm q C N bs bm true sn sub ab col dd k0 k1 k2 k3 k5 "ValueError.__new__")) (he : h.get? e = some (excO C t0)) (hu : h.get? u = some (kxs_mw "ValueError.__init__" e))
    (hq : ∀ h' t1, (∀ b o, b ≠ e → h.get? b = some o → h'.get? b = some o) → h'.get? e = some (excO C t1) → Q .none ⟨h', g, d, t, os⟩) :
    wpAny (model prog w) A (call (.ref u) [one]) Q E ⟨h, g, d, t, os⟩ := by
  refine wpAny_call (codeAny_of_tree (show wpAny _ (Around.in1 _) (callAny (.ref u) ⟨[one], []⟩) _ _ _ from ?_))
  have e1 : (Value.type "method-wrapper" == Value.type "method" || Value.type "method-wrapper" == Value.type "builtin_function_or_method" || Value.type "method-wrapper" == Value.type "method-wrapper") = true := by decide
  simp only [callAny]
  refine wpAny_bind (m := load u) (wpAny_load hu ?_)
  simp only [kxs_mw, e1, if_true]
  refine (KFB.if_so (by decide) (wpAny_bind (check_bound_init F.excBase_ValueError.toExcCallFacts hC he rfl ?_)))
  refine (wpAny_bind (wpAny_pure (wpAny_pure (And.intro (plainId_quiet F.excBase_ValueError.init.plain _) (codeAny_builtin F.excBase_ValueError.initEntry ?_)))))
  have lz : [one].length ≤ sizeLine := by
    rw [sizeLine_eq]
    exact (by decide : 1 ≤ 16777216)
  exact exc_init_tree (cls := .ref C) (t0 := t0) (dv := none) (c2 := .none) (c3 := .none) (b4 := .bool false) he lz (fun h₄ k₄ hx₄ _ => hq h₄ _ k₄ hx₄)
theorem err_init (T : ErrTxt prog K C fI qn msg) {x t0 : Addr} {v : Value} (X : K.In s.heap) (lim : s.heap.NoLimit) (gl : s.heap.Ns mainGlobals mg) (bl : s.heap.Ns builtinsNs mb)
    (bb : ∀ x : Str, x ≠ "__name__" → mb x = bootBuiltins x) (hx : s.heap.get? x = some (excO C t0)) (hnx : K.lookup x = none) (room : A.depth < recursionLimit)
    (hq : ∀ h' tk dx t1, InitEnd s.heap h' x C dx t1 v → R (.ok (.ret .none)) { s with heap := h', toks := tk }) :
    codeAny (model prog w) A (.call (.ref fI) ⟨[.ref x, v], []⟩) R s := by
  obtain ⟨oc, od, doc, pm, an, cda, cc, ct, osl, kk, p1, p2, p3, p4, p5, p6, q1, q2, q3, q4, r1, r2, ccl, cl, cdd, cld, vs, ccs, csl, file, tf, ho, hcd, hcode, hvs, hfile, hcell, hline⟩ := T.fn
  obtain ⟨nm, q, N, bs, bm, sn, sub, ab, col, dd, k0, k1, k2, k3, k5, hC, hbm⟩ := T.cls
  have hzs := mg_none_of X gl T.zs
  obtain ⟨hp, g, dr, tk, os⟩ := s
  refine ks_codeAny_call_defAt (binds := [("self", .ref x), ("count", v)]) room (X _ _ ho) rfl lim (codeRec_of X hcd) rfl (BindsTo.of_eq (by first | rfl | with_unfolding_all rfl)) iS_nocell (iS_loc _ _) (fun h₁ hns k₁ => ?_) rfl rfl rfl
  have X₁ : K.In h₁ := X.keeps k₁
  have hx₁ := k₁ _ _ hx
  refine ks_wpAt_execs_cons (ks_wpAt_Expr_any (at_method hline (by first | rfl | with_unfolding_all rfl) ?_))
  refine ks_wpAt_super_base rfl rfl (by decide) rfl (X₁ _ _ ho) rfl rfl rfl (X₁ _ _ hcode) rfl hvs hfile T.htop ?_
  refine ks_loadName_global rfl rfl (loadGlobal_builtin (gl.keeps k₁) hzs (bl.keeps k₁) ((bb _ (by decide +kernel)).trans (by decide +kernel : bootBuiltins "super" = some (.type "super"))) ⟨rfl, ?_⟩)
  refine wpAny_loadName_free rfl rfl rfl ⟨_, X₁ _ _ hcell, rfl⟩ ?_
  refine wpAny_loadName_local rfl rfl hns (v := .ref x) (by first | rfl | with_unfolding_all rfl) ?_
  refine ks_wpAny_isType_cls (X₁ _ _ hC) rfl ⟨rfl, ?_⟩
  refine ks_wpAny_call_super (X₁ _ _ hC) rfl hx₁ rfl (fun c e => nomatch e) (looks_mroIn X₁ T.sub) (fun h₂ e₂ k₂ => ?_)
  have X₂ : K.In h₂ := X₁.keeps k₂
  have hx₂ := k₂ _ _ hx₁
  have I₂ : InstAt h₂ x (excO C t0) C none := ⟨hx₂, rfl, rfl, trivial⟩
  have hcl : clsIn K C = some { name := nm, bases := bs, mro := .ref C :: bm, ns := N, qualname := q, hasDict := true, slotNames := sn, subclasses := sub, abstract := ab, collection := col, hasDel := false } := by
    unfold clsIn
    rw [hC]
    all_goals rfl
  have hm := T.sup
  unfold ks_superIn at hm
  rw [hcl] at hm
  have hI : Looks (model prog w) h₂ (isInstance (.ref x) (.type "ValueError")) true := I₂.type.andThen (looks_subIn X₂ T.veC)
  have hxC : x ≠ C := fun z => by
    rw [z, hC] at hnx
    cases hnx
  refine kxs_getMethod kxs_ValueError e₂ (looks_opaque X₂ T.op) (l₀ := .ref C :: bm) ?_ rfl X₂ hm hI hxC (by decide +kernel) ?_
  · exact fun A Q E s k q => wpAny_bind ((looks_clsIn X₂ hcl) A _ E s k (wpAny_pure q))
  have hu : (h₂.push (kxs_mw "ValueError.__init__" x)).get? h₂.objs.size = some (kxs_mw "ValueError.__init__" x) := Heap.get?_push_at rfl rfl
  have k₃ : ∀ b o, h₂.get? b = some o → (h₂.push (kxs_mw "ValueError.__init__" x)).get? b = some o := fun b o e => Heap.get?_push_of_some _ e
  have X₃ : K.In (h₂.push (kxs_mw "ValueError.__init__" x)) := X₂.keeps k₃
  have hx₃ := k₃ _ _ hx₂
  refine kxs_callWith (i := "ValueError.__init__") (x := x) (by rfl) (evalArgs_plain ?_)
  refine Calls.spliced_cons (Calls.Constant_str (k := kk) (pos := p4) ?_)
  refine Calls.spliced_nil ⟨hu, ?_⟩
  refine sup_call (X₃ _ _ hC) hx₃ hu (fun h₄ t1 k₄ hx₄ => ?_)
  -- self.found = found
  have X₄ : K.In h₄ := fun a o e => k₄ a o (fun z => by rw [z, hnx] at e; cases e) (X₃ a o e)
  have hLx : hp.objs.size ≠ x := Nat.ne_of_gt (Heap.lt_size hx)
  have hn₄ := hns
  obtain ⟨oL, es, ep, eL, rL⟩ := hn₄
  have hn₄ : h₄.Ns hp.objs.size _ := ⟨oL, es, ep, k₄ _ _ hLx (k₃ _ _ (k₂ _ _ eL)), rL⟩
  have big : hp.objs.size < h₄.objs.size := hn₄.lt
  show _root_.PySem.wpAt _ _ _ (execs _ _) _ _ _
  refine _root_.PySem.wpAt_of_wpAny (wpAny_execs_cons (plainObj_wpAny_Assign_Attribute ?_))
  refine wpAny_Name (wpAny_loadName_local rfl rfl hn₄ (v := v) (by first | rfl | with_unfolding_all rfl) ?_) (by decide)
  refine wpAny_Name (wpAny_loadName_local rfl rfl hn₄ (v := .ref x) (by first | rfl | with_unfolding_all rfl) ?_) (by decide)
  refine set_plain X₄ (ox := excO C t1) (od := none) ⟨hx₄, rfl, rfl, trivial⟩ T.sa ?_
  refine HandSPX.exc_osa X₄ hx₄ hcl (show refsVE (.ref C :: bm) = true from hbm) rfl T.noN (fun h₅ tk₅ dx k₅ dn dne hx₅ hn₅ => ?_)
  show wpAny _ _ (execs _ _) _ _ _
  exact wpAny_execs_nil (hq h₅ tk₅ dx t1 ⟨fun b o hb e => k₅ b o hb (k₄ b o hb (k₃ b o (k₂ b o (k₁ b o e)))), hx₅, Nat.le_trans (Nat.le_of_lt big) dn, dne, hn₅⟩)
/-- an error that was made: its own dict d holds the thing -/
structure OwnMade (h h' : Heap) (e C d : Addr) (v : Value) : Prop where
  keep : ∀ b o, h.get? b = some o → h'.get? b = some o
  new : h.objs.size ≤ e
  obj : ∃ oe vs, h'.get? e = some oe ∧ oe.cls = .ref C ∧ oe.dict = some d ∧ oe.data = .fields vs ∧ vs[1]? = some .none
  dbig : h.objs.size ≤ d
  dne : d ≠ e
  ns : h'.Ns1 d (fun y => if y = "count" then some v else none)
theorem one_size (v : Value) : [v].length ≤ sizeLine := by
  rw [sizeLine_eq]
  exact (by decide : 1 ≤ 16777216)
theorem err_made (T : ErrTxt prog K C fI qn msg) {v : Value} (X : K.In s.heap) (lim : s.heap.NoLimit) (gl : s.heap.Ns mainGlobals mg) (bl : s.heap.Ns builtinsNs mb)
    (bb : ∀ x : Str, x ≠ "__name__" → mb x = bootBuiltins x) (room : A.depth + 1 < recursionLimit)
    (hq : ∀ h' tk e d, OwnMade s.heap h' e C d v → R (.ok (.ret (.ref e))) { s with heap := h', toks := tk }) :
    codeAny (model prog w) A (.call (.ref C) ⟨[v], []⟩) R s := by
  obtain ⟨nm, q, N, bs, bm, sn, sub, ab, col, dd, k0, k1, k2, k3, k5, hC, hbm⟩ := T.cls
  obtain ⟨hp, g, dr, tk, os⟩ := s
  have k : ∀ b o, hp.get? b = some o → ((hp.push (kdv_tup [v])).push (excO C hp.objs.size)).get? b = some o := fun b o e => Heap.get?_push_of_some _ (Heap.get?_push_of_some _ e)
  have hget : ((hp.push (kdv_tup [v])).push (excO C hp.objs.size)).get? (hp.objs.size + 1) = some (excO C hp.objs.size) := by heap_get
  have hnx : K.lookup (hp.objs.size + 1) = none := by
    cases e : K.lookup (hp.objs.size + 1) with
    | none => rfl
    | some o =>
      have z : hp.get? (hp.objs.size + 1) = some o := X _ _ e
      exact absurd (Nat.lt_of_succ_lt (Heap.lt_size z)) (Nat.lt_irrefl _)
  refine HandSPX.call_own F.excBase_ValueError (fun X => refsVE_contains X bm hbm) (X _ _ hC) (looks_findIn X T.iC) (fun self => bind_fn X self T.tC) (one_size v) ?_
  refine err_init (s := ⟨(hp.push (kdv_tup [v])).push (excO C hp.objs.size), g, dr, tk, os⟩) T (X.keeps k) (lim.keeps k) (gl.keeps k) (bl.keeps k) bb hget hnx ?_ fun h' tk' dx t1 ⟨k', hx, dn, dne, hns⟩ => ?_
  · show A.depth + 1 < recursionLimit
    exact room
  · have old : ∀ b o, hp.get? b = some o → h'.get? b = some o := fun b o e => k' b o (Nat.ne_of_lt (Nat.lt_succ_of_lt (Heap.lt_size e))) (k b o e)
    have z : hp.objs.size + 1 + 1 ≤ dx := by
      first
        | (simpa only [Heap.size_push] using dn)
        | exact dn
        | (have q := dn; rw [Heap.size_push, Heap.size_push] at q; exact q)
    exact ⟨rfl, hq h' tk' (hp.objs.size + 1) dx ⟨old, Nat.le_succ _, ⟨_, _, hx, rfl, rfl, rfl, rfl⟩, Nat.le_trans (Nat.le_trans (Nat.le_succ _) (Nat.le_succ _)) z, dne, hns⟩⟩
end
end Gk
namespace Gk
open PySem PySem.Spec PyProof.Rows L2
theorem relO_f {v : V} {v' : Value} (r : RelV v v') (f : Str) : RelO (List.lookup f [(("count" : Str), v)]) (if f = "count" then some v' else none) := by
  by_cases hw : f = "count"
  · subst hw
    rw [if_pos rfl]
    have q : List.lookup ("count" : Str) [(("count" : Str), v)] = some v := by simp [List.lookup]
    rw [q]
    exact r
  · rw [if_neg hw]
    have qw : (f == ("count" : Str)) = false := by simpa using hw
    have q2 : List.lookup f [(("count" : Str), v)] = none := by simp [List.lookup, qw]
    rw [q2]
    trivial
section
variable {X : Cx} {C fI : Addr} {qn msg cn : Str}
/-- E(e) -/
def tMkE (C : Addr) (ta : TA) : L2.St → Hp → XK → Prop := fun σ H Q => ta σ H fun vs H1 => ∃ v, vs = [v] ∧ ∀ d, H1 d = none → Q (.ref C) (some d) (upd H1 d (.xd [(("count" : Str), v)]))
theorem pmk_err {a : Expr} {ta : TA} {p pos : Pos} {k : Nat} (T : ErrTxt X.prog X.K C fI qn msg) (gC : X.mg cn = some (.ref C)) (hr : Room k X.A) (ha : PA X [a] ta) (hg : Gl X cn)
    (hdb : (cn == ("__debug__" : Str)) = false := by decide)
    (he : starEach (a :: []) X.env = (false, eval a X.env) :: starEach [] X.env := by rfl) (hpl : (backTo pos (starEach [] X.env)).any (·.1) = false := by rfl) :
    PMk X (.Call (.Name cn p) [a] [] pos) (tMkE C ta) := by
  intro pins s σ H Q I h
  apply wpAny_Call_Name_kw
  apply ld_glob I hg gC (hd := hdb)
  refine PySem.W.callWith_K (h₀ := X.base) I.ok.mod.kin T.kC (thn (ha.run pos pins s σ H _ I h) ?_) he hpl
  rintro us s1 ⟨vs, H1, I1, r1, v, ev, q1⟩
  subst ev
  refine ⟨I1.kIn, ?_⟩
  cases r1 with
  | cons rv rn =>
    rename_i v' us'
    cases rn
    show wpAny _ _ (call (.ref C) [v']) _ _ _
    have hlim := I1.nolimit
    have hgl := I1.mod.glob.keeps I1.bk
    obtain ⟨mb, hbl0, hbb⟩ := I1.mod.blt
    have hbl := hbl0.keeps I1.bk
    obtain ⟨hp, g, dr, tk, os⟩ := s1
    refine wpAny_call (err_made T I1.kIn hlim hgl hbl hbb (by have := hr.dp; omega) fun h' tk' e d M => ?_)
    show MkP X pins σ Q (.ref e) ⟨h', g, dr, tk', os⟩
    obtain ⟨oe, fv, hoe, hc, hd, hdat, h1⟩ := M.obj
    have hns := M.ns
    obtain ⟨G', g1, g2⟩ := restrict h' fun b => decide (b ≠ e)
    have gk : ∀ b, b ≠ e → G'.get? b = h'.get? b := fun b hb => g1 b (decide_eq_true hb)
    have ge : G'.get? e = none := g2 e (by simp)
    have old : ∀ b o, hp.get? b = some o → G'.get? b = some o := fun b o q => (gk b (Nat.ne_of_lt (Nat.lt_of_lt_of_le (Heap.lt_size q) M.new))).trans (M.keep b o q)
    have ob : ObjOk X.prog X.w (upd H1 d (.xd [(("count" : Str), v)])) G' d (.xd [(("count" : Str), v)]) :=
      ⟨_, hns.at (fun o q => (gk d M.dne).trans q), fun f => relO_f rv f⟩
    have J : Inv X pins σ (upd H1 d (.xd [(("count" : Str), v)])) ⟨G', g, dr, tk', os⟩ := I1.laid (t' := tk') old M.dbig ob
    refine ⟨e, oe, fv, ⟨G', g, dr, tk', os⟩, _, .ref C, some d, rfl, J, fun b o q => ?_, ge, hoe, ⟨hc, hd⟩, hdat, h1, ?_, rfl, I1.bare, raises_own T.exC T.tyC, q1 d (I1.hok.fresh M.dbig)⟩
    · by_cases hb : b = e
      · have q' : G'.get? b = some o := q
        rw [hb, ge] at q'
        cases q'
      · exact (gk b hb).symm.trans q
    · rw [upd_ne (Ne.symm M.dne)]
      exact I1.hok.fresh M.new
/-- raise E(e) -/
def tRaiseE (C : Addr) (W : WX) (ta : TA) : TS := fun _ σ H => tMkE C ta σ H fun cls d H' => W cls d σ H'
theorem ps_raiseE {a : Expr} {ta : TA} {W : WX} {p pos pos2 : Pos} {k : Nat} (hc : X.calm = true) (T : ErrTxt X.prog X.K C fI qn msg) (gC : X.mg cn = some (.ref C)) (hr : Room k X.A) (tk : Takes X W) (ha : PA X [a] ta) (hg : Gl X cn)
    (hdb : (cn == ("__debug__" : Str)) = false := by decide)
    (he : starEach (a :: []) X.env = (false, eval a X.env) :: starEach [] X.env := by rfl) (hpl : (backTo pos (starEach [] X.env)).any (·.1) = false := by rfl) :
    PS X (.Raise (some (.Call (.Name cn p) [a] [] pos)) none pos2) (tRaiseE C W ta) := ps_raise hc tk (pmk_err T gC hr ha hg hdb he hpl)
/-- e.found, e the exception that the suite holds (at a; its class cls, its dict d) -/
def tFound (C : Addr) (a : Addr) (cls : Value) (d : Option Addr) (te : TE) : TE := fun σ H Q => te σ H fun x H1 => x = .ref a ∧ cls = .ref C ∧ ∃ (dd : Addr) (v : V), d = some dd ∧ H1 dd = some (.xd [(("count" : Str), v)]) ∧ Q v H1
theorem pe_found {a : Addr} {oe : Obj} {cls : Value} {d : Option Addr} {pn : List (Addr × Obj)} {e : Expr} {te : TE} {pos : Pos} (T : ErrTxt X.prog X.K C fI qn msg) (hz : Zc cls d oe) (hf : ∃ vs, oe.data = .fields vs) (he : PE (X.suite a ((a, oe) :: pn)) e te)
    (hb : attributeBase e "count" X.env (eval e X.env) = eval e X.env := by rfl) :
    PE (X.suite a ((a, oe) :: pn)) (.Attribute e "count" pos) (tFound C a cls d te) := by
  constructor
  intro pins s σ H Q I h
  refine attr_of hb (thn (he.run pins s σ H _ I h) ?_)
  rintro u s1 ⟨x, H1, I1, rx, ex, ec, dd, v, ed, ea, q⟩
  subst ex
  obtain rfl : u = Value.ref a := rx
  subst ec
  subst ed
  have ha := (I1.pin (a, oe) (List.mem_append_left _ List.mem_cons_self)).1
  obtain ⟨vs, hd⟩ := hf
  have hx : ObjOk X.prog X.w H1 s1.heap dd (.xd [(("count" : Str), v)]) := I1.hok dd _ ea
  obtain ⟨mA, hns, hr⟩ := hx
  obtain ⟨od, ho, hl⟩ := lookIn_ns hns
  have l : List.lookup ("count" : Str) [(("count" : Str), v)] = some v := by simp [List.lookup]
  obtain ⟨u, hu, ru⟩ := RelO.some_of (v := v) (o := mA "count") (by rw [← l]; exact hr "count")
  have J : PySem.W.InstAt s1.heap a oe C (some od) := by
    refine ⟨ha, hz.1, ?_, by rw [hz.2]; exact ho⟩
    unfold PySem.W.notCls
    rw [hd]
    all_goals rfl
  exact HandSPX.exc_get I1.kIn J T.ga T.gg T.exC (PySem.W.findObj_own T.hdC T.noN rfl (by rw [hl, hu])) (handed_of ru) ⟨v, H1, I1.tok _, ru, q⟩
/-- what a class of errors must say so that isinstance asks it -/
structure IsTxt (K : PySem.W.Frag) (C : Addr) : Prop where
  ha : PySem.W.findIn K (.ref C) "__class__" = some (some (.builtin "object.__class__"))
  hn : PySem.W.specialIn K (.builtin "object.__class__") "__get__" = some (some (.builtin "getset_descriptor.__get__"))
  ht : PySem.W.takesIn K (.builtin "object.__class__") = some true
  hm : PySem.W.mroIn K C (.type "object") = some true
/-- isinstance(e, c), e the exception that the suite holds, with its own dict -/
def rIsF (K : PySem.W.Frag) (C a : Addr) (cls : Value) (d : Option Addr) : List V → Hp → VK → Prop := fun xs H Q => ∃ (c : V) (cv : Value) (b : Bool) (dd : Addr) (v : V), xs = [.ref a, c] ∧ cls = .ref C ∧ d = some dd ∧
  H dd = some (.xd [(("count" : Str), v)]) ∧ ClsV c cv ∧ PySem.W.kitOne K (.ref C) cv = some b ∧ Q (.bl b) H
theorem call_isF {a : Addr} {oe : Obj} {cls : Value} {d : Option Addr} {pn : List (Addr × Obj)} (T : ErrTxt X.prog X.K C fI qn msg) (S : IsTxt X.K C) (hz : Zc cls d oe) (hf : ∃ vs, oe.data = .fields vs) :
    CallR (X.suite a ((a, oe) :: pn)) (.builtin "isinstance") (rIsF X.K C a cls d) := by
  intro pins s σ H xs us Q I r h
  obtain ⟨c, cv, b, dd, v, rfl, rfl, rfl, ea, hcv, e, q⟩ := h
  obtain ⟨u1, u2, rfl, r1, r2⟩ := vals2 r
  cases (show u1 = Value.ref a from r1)
  have e2 := hcv.eq r2
  subst e2
  have ha := (I.pin (a, oe) (List.mem_append_left _ List.mem_cons_self)).1
  obtain ⟨vs, hd⟩ := hf
  have hx : ObjOk X.prog X.w H s.heap dd (.xd [(("count" : Str), v)]) := I.hok dd _ ea
  obtain ⟨mA, hns, _⟩ := hx
  obtain ⟨od, ho, _⟩ := lookIn_ns hns
  have J : PySem.W.InstAt s.heap a oe C (some od) := by
    refine ⟨ha, hz.1, ?_, by rw [hz.2]; exact ho⟩
    unfold PySem.W.notCls
    rw [hd]
    all_goals rfl
  have hcl : (PySem.W.clsIn X.K C).isSome = true := by
    obtain ⟨cd, hc, _⟩ := PySem.W.any_some T.hdC
    rw [hc]
    rfl
  exact PySem.W.kia_one (PySem.W.kitx_exc hcl T.ga T.gg T.exC S.ha S.hn S.ht S.hm) I.kIn J e (fun z => nomatch z) fun tk => ⟨.bl b, H, I.kept (t' := tk) fun _ _ z => z, rfl, q⟩
end
end Gk
/-! A def that is handed a caught exception. -/
namespace Gc
open PySem PySem.Spec PyProof.Rows L2 Ge
abbrev SpE := Addr → Value → Option Addr → Sp
structure FnE (P : Program) (w : World) (K : PySem.W.Frag) (mg : Str → Option Value) (base : Heap) (k : Nat) (f : Addr) (fd : FuncData) (ps : List Str) (sp : SpE) : Prop where
  len : ∀ a cls d vs H Q E, sp a cls d vs H Q E → vs.length = ps.length
  run : ∀ (A : Around) (outer : List Env) (s : Shared) (H : Hp) (args : Args) (us : List Value) (vs : List V) (Q : VK) (E : XK) (p : Addr × Obj) (cls : Value) (d : Option Addr), L2H.RoomH k A → Zc cls d p.2 → (∃ vs, p.2.data = .fields vs) → L2H.PinOk outer H s p →
    Env0 P w K mg base A outer s H → BindsTo s fd args (ps.zip us) → Vals vs us → sp p.1 cls d vs H Q E → codeAny (model P w) A (.call (.ref f) args) (CR CX0 outer P w H s Q E) s
structure CalE (P : Program) (w : World) (K : PySem.W.Frag) (mg : Str → Option Value) (base : Heap) (k : Nat) (x : Str) (sp : SpE) : Prop where
  ex : ∃ (f : Addr) (fd : FuncData) (ps : List Str), FnE P w K mg base k f fd ps sp ∧ mg x = some (.ref f) ∧ PySem.W.keepIn K (.ref f) = true ∧ Binds K fd ps []
theorem fn_ofE {P : Program} {w : World} {K : PySem.W.Frag} {mg : Str → Option Value} {base : Heap} {k : Nat} {f : Addr} {name qual : Str} {params : Arguments} {body : List Stmt} {scope : Scope} {dV kV doc pm cdv ct oc : Value} {an od : Option Addr}
    {osl : Array (Option Value)} {N ps : List Str} {sp : SpE} (lk : K.lookup f = some ⟨oc, od, .func (PySem.W.fnOf name qual params body scope dV kV doc pm an cdv ct), osl⟩) (hcd : PySem.W.codeIn K cdv qual = true) (S : FnScope N ps scope)
    (len : ∀ a cls d vs H Q E, sp a cls d vs H Q E → vs.length = ps.length)
    (hbody : ∀ (A : Around) (outer : List Env) (s : Shared) (H : Hp) (vs : List V) (Q : VK) (E : XK) (p : Addr × Obj) (cls : Value) (d : Option Addr), Zc cls d p.2 → (∃ vs, p.2.data = .fields vs) → L2H.RoomH k (A.deeper (envOfC qual scope s.heap.objs.size f cdv)) → sp p.1 cls d vs H Q E →
      ∃ t, PSs (L2H.cxH CX0 P w K mg base N qual scope f cdv A outer s H E p) body t ∧ t { nx := fun _ H' => Q .non H', rt := Q } (L2.start N vs) H) :
    FnE P w K mg base (k + 1) f (PySem.W.fnOf name qual params body scope dV kV doc pm an cdv ct) ps sp := by
  refine ⟨len, fun A outer s H args us vs Q E p cls d hr hz hf hpin e0 hb r hsp => ?_⟩
  have hl := len _ _ _ _ _ _ _ hsp
  have KX : K.In s.heap := e0.mod.kin.keeps fun b o e => (e0.bs b o e).1
  have lim : s.heap.NoLimit := e0.mod.nolimit.keeps fun b o e => (e0.bs b o e).1
  have hkind : ∀ y ∈ ps.zip us, scope.names.lookup y.1 = some .local ∨ (scope.names.lookup y.1 = some .cell ∧ ((cellsFrom (s.heap.objs.size + 1) scope.names []).lookup y.1).isSome = true) := fun ⟨n, v⟩ hy => by
    rcases S.par n (List.of_mem_zip hy).1 with q | q
    · exact .inl q
    · exact .inr ⟨q, PySem.W.cellsFrom_some _ _ _ (.inl q)⟩
  refine codeAny_call_function hr.depth (KX _ _ lk) rfl S.co S.gen rfl (PySem.W.codeRec_of KX hcd) (hb _ _ _ _ ?_)
  refine wpAny_newFunctionEnv_cells S.kind hkind fun env he s1 x => ?_
  subst he
  refine ⟨lim.keeps x.toInCall.keep, codeAny_func ?_⟩
  obtain ⟨t, ht, hq⟩ := hbody A outer s H vs Q E p cls d hz hf (hr.deeper _) hsp
  have I : Inv (L2H.cxH CX0 P w K mg base N qual scope f cdv A outer s H E p) [] (L2.start N vs) H s1 := L2H.inv_startH S hpin e0 hl r x
  refine wpAny_mono (ht.run [] s1 (L2.start N vs) H _ I hq) (fun fl s' hs => ?_) fun e s' hs => hs
  have fin : ∀ {σ' : L2.St} {H' : Hp} {v : V} {u : Value}, Inv (L2H.cxH CX0 P w K mg base N qual scope f cdv A outer s H E p) [] σ' H' s' → RelV v u → Q v H' → CE outer P w H s Q u s' :=
    fun {σ' H' v u} J rv q => ⟨v, H', J.os, J.bare, J.base, J.hok, rv, q⟩
  cases fl with
  | ret u =>
    obtain ⟨v, σ', H', J, rv, q⟩ := hs
    exact fin J rv q
  | next =>
    obtain ⟨σ', H', J, q⟩ := hs
    exact fin (v := V.non) (u := Value.none) J rfl q
  | brk =>
    obtain ⟨_, _, _, q⟩ := hs
    exact False.elim q
  | cont =>
    obtain ⟨_, _, _, q⟩ := hs
    exact False.elim q
section
variable {P : Program} {w : World} {K : PySem.W.Frag} {mg : Str → Option Value} {base : Heap}
theorem DefAt.calE {x : Str} {st : Stmt} {N ps : List Str} {k : Nat} {sp : SpE} (D : Gd.DefAt K mg x st ps) (S : FnScope N ps (defScope st))
    (ar : ∀ a cls d vs H Q E, sp a cls d vs H Q E → vs.length = ps.length)
    (bd : ∀ (f : Addr) (cdv : Value) (A : Around) (outer : List Env) (s : Shared) (H : Hp) (vs : List V) (Q : VK) (E : XK) (p : Addr × Obj) (cls : Value) (d : Option Addr), Zc cls d p.2 → (∃ vs, p.2.data = .fields vs) → L2H.RoomH k (A.deeper (envOfC x (defScope st) s.heap.objs.size f cdv)) → sp p.1 cls d vs H Q E →
      ∃ t, PSs (L2H.cxH CX0 P w K mg base N x (defScope st) f cdv A outer s H E p) (defBody st) t ∧ t { nx := fun _ H' => Q .non H', rt := Q } (L2.start N vs) H) : CalE P w K mg base (k + 1) x sp := by
  obtain ⟨f, fd, F, m, b⟩ := D.ex
  have kp := F.kp
  obtain ⟨oc, od, kV, doc, pm, an, cdv, ct, osl, rfl, lk, cin⟩ := F.ex
  exact ⟨f, _, ps, fn_ofE lk cin S ar (bd f cdv), m, kp, b⟩
end
/-! ### the call, in the suite -/
section
variable {X : Cx} {k : Nat} {x : Str} {q pos : Pos} {e : Expr} {es : List Expr} {t : TA} {sp : SpE}
/-- f(e), in the suite that holds the exception at a -/
def tCallE (sp : SpE) (a : Addr) (cls : Value) (d : Option Addr) (t : TA) : TE := fun σ H Q => t σ H fun vs H1 => sp a cls d vs H1 Q E0
theorem pe_callE {a : Addr} {oe : Obj} {cls : Value} {d : Option Addr} (c : CalE X.prog X.w X.K X.mg X.base k x sp) (hp : (a, oe) ∈ X.pn) (hz : Zc cls d oe) (hf : ∃ vs, oe.data = .fields vs) (hr : L2H.RoomH k X.A) (hg : Gl X x)
    (ha : PA X (e :: es) t) (hdb : (x == ("__debug__" : Str)) = false := by decide) (he : starEach (e :: es) X.env = (false, eval e X.env) :: starEach es X.env := by rfl) (hpl : (backTo pos (starEach es X.env)).any (·.1) = false := by rfl) :
    PE X (.Call (.Name x q) (e :: es) [] pos) (tCallE sp a cls d t) := by
  obtain ⟨f, fd, ps, F, hm, hk, hb⟩ := c.ex
  refine ⟨fun pins s σ H Q I h => ?_⟩
  refine wpAny_Call_Name_kw (ld_glob I hg hm ?_ hdb)
  refine PySem.W.callWith_K (h₀ := X.base) I.ok.mod.kin hk (thn (ha.run pos pins s σ H _ I h) fun us s1 ⟨vs, H1, I1, r, q⟩ => ⟨I1.kIn, ?_⟩) he hpl
  have hl : us.length = ps.length := by rw [← r.length]; exact F.len _ _ _ _ _ _ _ q
  have b := hb s1 us I1.kIn (by rw [List.append_nil]; exact hl)
  rw [List.append_nil] at b
  have P1 := I1.pin (a, oe) (List.mem_append_left _ hp)
  have hpin : L2H.PinOk X.stack H1 s1 (a, oe) := ⟨P1.1, P1.2.1, fun hm => (List.mem_cons.mp (I1.stkSub a hm)).elim P1.2.2.1 P1.2.2.2.1, P1.2.2.2.2⟩
  refine wpAny_call (codeAny_mono (F.run X.A X.stack s1 H1 ⟨us, []⟩ us vs Q E0 (a, oe) cls d hr hz hf hpin I1.env0 b r q) fun r s' hq => ?_)
  cases r with
  | error e => exact False.elim hq
  | ok fl =>
    cases fl with
    | ret u => exact I1.after hq
    | next => exact False.elim hq
    | brk => exact False.elim hq
    | cont => exact False.elim hq
end
/-! ### what the def asks of it -/
section
variable {X : Cx} {C fI : Addr} {qn msg cn : Str}
theorem pe_foundP {a : Addr} {oe : Obj} {cls : Value} {d : Option Addr} {e : Expr} {te : TE} {pos : Pos} (T : ErrTxt X.prog X.K C fI qn msg) (hp : (a, oe) ∈ X.pn) (hz : Zc cls d oe) (hf : ∃ vs, oe.data = .fields vs) (he : PE X e te)
    (hb : attributeBase e "found" X.env (eval e X.env) = eval e X.env := by rfl) :
    PE X (.Attribute e "found" pos) (tFound C a cls d te) := by
  constructor
  intro pins s σ H Q I h
  refine attr_of hb (thn (he.run pins s σ H _ I h) ?_)
  rintro u s1 ⟨x, H1, I1, rx, ex, ec, dd, v, ed, ea, q⟩
  subst ex
  obtain rfl : u = Value.ref a := rx
  subst ec
  subst ed
  have ha := (I1.pin (a, oe) (List.mem_append_left _ hp)).1
  obtain ⟨vs, hd⟩ := hf
  have hx : ObjOk X.prog X.w H1 s1.heap dd (.xd [(("found" : Str), v)]) := I1.hok dd _ ea
  obtain ⟨mA, hns, hr⟩ := hx
  obtain ⟨od, ho, hl⟩ := lookIn_ns hns
  have l : List.lookup ("found" : Str) [(("found" : Str), v)] = some v := by simp [List.lookup]
  obtain ⟨u, hu, ru⟩ := RelO.some_of (v := v) (o := mA "found") (by rw [← l]; exact hr "found")
  have J : PySem.W.InstAt s1.heap a oe C (some od) := by
    refine ⟨ha, hz.1, ?_, by rw [hz.2]; exact ho⟩
    unfold PySem.W.notCls
    rw [hd]
    all_goals rfl
  exact HandSPX.exc_get I1.kIn J T.ga T.gg T.exC (PySem.W.findObj_own T.hdC T.noN rfl (by rw [hl, hu])) (handed_of ru) ⟨v, H1, I1.tok _, ru, q⟩
/-- isinstance(e, c), whatever its own dict holds -/
def rIsX (K : PySem.W.Frag) (C a : Addr) (cls : Value) (d : Option Addr) : List V → Hp → VK → Prop := fun xs H Q => ∃ (c : V) (cv : Value) (b : Bool) (dd : Addr) (fs : List (Str × V)), xs = [.ref a, c] ∧ cls = .ref C ∧ d = some dd ∧
  H dd = some (.xd fs) ∧ ClsV c cv ∧ PySem.W.kitOne K (.ref C) cv = some b ∧ Q (.bl b) H
/-- what a class of errors says, however many fields it keeps -/
structure ClsE (K : PySem.W.Frag) (C : Addr) : Prop where
  ga : PySem.W.findIn K (.ref C) "__getattribute__" = some (some (.builtin "BaseException.__getattribute__"))
  gg : PySem.W.findIn K (.ref C) "__getattr__" = some none
  exC : PySem.W.subIn K (.ref C) (.type "BaseException") = some true
  hdC : PySem.W.hasDictIn K C = true
theorem _root_.Ge.ErrTxt.ce {P : Program} {K : PySem.W.Frag} (T : ErrTxt P K C fI qn msg) : ClsE K C := ⟨T.ga, T.gg, T.exC, T.hdC⟩
theorem call_isP {a : Addr} {oe : Obj} {cls : Value} {d : Option Addr} (T : ClsE X.K C) (S : IsTxt X.K C) (hp : (a, oe) ∈ X.pn) (hz : Zc cls d oe) (hf : ∃ vs, oe.data = .fields vs) :
    CallR X (.builtin "isinstance") (rIsX X.K C a cls d) := by
  intro pins s σ H xs us Q I r h
  obtain ⟨c, cv, b, dd, fs, rfl, rfl, rfl, ea, hcv, e, q⟩ := h
  obtain ⟨u1, u2, rfl, r1, r2⟩ := vals2 r
  cases (show u1 = Value.ref a from r1)
  have e2 := hcv.eq r2
  subst e2
  have ha := (I.pin (a, oe) (List.mem_append_left _ hp)).1
  obtain ⟨vs, hd⟩ := hf
  have hx : ObjOk X.prog X.w H s.heap dd (.xd fs) := I.hok dd _ ea
  obtain ⟨mA, hns, _⟩ := hx
  obtain ⟨od, ho, _⟩ := lookIn_ns hns
  have J : PySem.W.InstAt s.heap a oe C (some od) := by
    refine ⟨ha, hz.1, ?_, by rw [hz.2]; exact ho⟩
    unfold PySem.W.notCls
    rw [hd]
    all_goals rfl
  have hcl : (PySem.W.clsIn X.K C).isSome = true := by
    obtain ⟨cd, hc, _⟩ := PySem.W.any_some T.hdC
    rw [hc]
    rfl
  exact PySem.W.kia_one (PySem.W.kitx_exc hcl T.ga T.gg T.exC S.ha S.hn S.ht S.hm) I.kIn J e (fun z => nomatch z) fun tk => ⟨.bl b, H, I.kept (t' := tk) fun _ _ z => z, rfl, q⟩
/-- e.f, e the exception handed in, whatever its own dict holds -/
def tFld (C : Addr) (a : Addr) (cls : Value) (d : Option Addr) (n : Str) (te : TE) : TE := fun σ H Q => te σ H fun x H1 => x = .ref a ∧ cls = .ref C ∧ ∃ (dd : Addr) (fs : List (Str × V)) (v : V), d = some dd ∧ H1 dd = some (.xd fs) ∧ fs.lookup n = some v ∧ Q v H1
theorem pe_fldP {a : Addr} {oe : Obj} {cls : Value} {d : Option Addr} {e : Expr} {te : TE} {n : Str} {pos : Pos} (T : ClsE X.K C) (noN : PySem.W.findIn X.K (.ref C) n = some none) (hp : (a, oe) ∈ X.pn) (hz : Zc cls d oe) (hf : ∃ vs, oe.data = .fields vs) (he : PE X e te)
    (hb : attributeBase e n X.env (eval e X.env) = eval e X.env := by rfl) :
    PE X (.Attribute e n pos) (tFld C a cls d n te) := by
  constructor
  intro pins s σ H Q I h
  refine attr_of hb (thn (he.run pins s σ H _ I h) ?_)
  rintro u s1 ⟨x, H1, I1, rx, ex, ec, dd, fs, v, ed, ea, hl0, q⟩
  subst ex
  obtain rfl : u = Value.ref a := rx
  subst ec
  subst ed
  have ha := (I1.pin (a, oe) (List.mem_append_left _ hp)).1
  obtain ⟨vs, hd⟩ := hf
  have hx : ObjOk X.prog X.w H1 s1.heap dd (.xd fs) := I1.hok dd _ ea
  obtain ⟨mA, hns, hr⟩ := hx
  obtain ⟨od, ho, hl⟩ := lookIn_ns hns
  obtain ⟨u, hu, ru⟩ := RelO.some_of (v := v) (o := mA n) (by rw [← hl0]; exact hr n)
  have J : PySem.W.InstAt s1.heap a oe C (some od) := by
    refine ⟨ha, hz.1, ?_, by rw [hz.2]; exact ho⟩
    unfold PySem.W.notCls
    rw [hd]
    all_goals rfl
  exact HandSPX.exc_get I1.kIn J T.ga T.gg T.exC (PySem.W.findObj_own T.hdC noN rfl (by rw [hl, hu])) (handed_of ru) ⟨v, H1, I1.tok _, ru, q⟩
end
end Gc
namespace K41
open PySem PySem.Spec PyProof.Rows L2 Gd Gs Gx Ge
open C8 (clsBody Met pe_mt pe_mt0)
theorem MAt.metX {P : Program} {w : World} {K : PySem.W.Frag} {mg : Str → Option Value} {base : Heap} {C : Addr} {m qual : Str} {st : Stmt} {N ps : List Str} {k : Nat} {sp : Sp} (M : MAt K C m qual st ps) (cl : Cls K C) (S : FnScope N ps (defScope st))
    (ar : ∀ vs H Q E, sp vs H Q E → vs.length = ps.length)
    (bd : ∀ (f : Addr) (cdv : Value) (A : Around) (outer : List Env) (s : Shared) (H : Hp) (vs : List V) (Q : VK) (E : XK), Room k (A.deeper (envOfC qual (defScope st) s.heap.objs.size f cdv)) → sp vs H Q E →
      ∃ t, PSs (cxOf (L2.CX P w) P w K mg base N qual (defScope st) f cdv A outer s H E) (defBody st) t ∧ t { nx := fun _ H' => Q .non H', rt := Q } (start N vs) H) : MetX P w K mg base (k + 1) C m sp := by
  obtain ⟨f, fd, F, me, b⟩ := M.ex
  exact ⟨f, fd, ps, cl, me, F.okX S ar (bd f), b⟩
section
variable {P : Program} {w : World} {K : PySem.W.Frag} {mg : Str → Option Value} {base : Heap} {C CL : Addr}
def wholeD (d : PyData) (lo hi : Int) : Bool := match d with
  | .int n => decide (lo ≤ n) && decide (n ≤ hi)
  | _ => false
theorem d1Int {H : Hp} {v : V} {n : Int} (h : D1 K H v (.int n)) : v = .int n := by
  cases h with
  | dp h =>
    cases h
    rfl
def spWhole (K : PySem.W.Frag) : Sp := fun vs H Q _ => ∃ (v : V) (d : PyData) (lo hi : Int), vs = [v, .int lo, .int hi] ∧ D1 K H v d ∧ Q (.bl (wholeD d lo hi)) H
theorem chain_end {lo n hi : Int} {Q : VK} {H : Hp} (q : Q (.bl (wholeD (.int n) lo hi)) H) :
    (if decide (lo ≤ n) = true then Q (.bl (decide (n ≤ hi))) H else Q (.bl false) H) := by
  have e : wholeD (.int n) lo hi = (decide (lo ≤ n) && decide (n ≤ hi)) := rfl
  rw [e] at q
  by_cases hl : lo ≤ n
  · rw [decide_eq_true hl] at q ⊢
    exact iteT q
  · rw [decide_eq_false hl] at q ⊢
    exact iteF q
theorem ok_whole (T : Txt K mg) (D : DefAt K mg "is_whole" s_is_whole ["thing", "low", "high"]) : C8.Cal P w K mg base 1 "is_whole" (spWhole K) [] := by
  obtain ⟨f, fd, F, m, b⟩ := D.ex
  refine ⟨f, fd, _, [], F.ok sc_is_whole (fun vs H Q E h => ?_) (fun cdv A outer s H vs Q E hr h => ?_), m, F.kp, b, .nil⟩
  · obtain ⟨v, d, lo, hi, rfl, _⟩ := h
    rfl
  · obtain ⟨v, d, lo, hi, rfl, hd, q⟩ := h
    have ty := tyD hd
    refine ⟨_, (pss_one (ps_ret (pe_and (pe_callB call_isi (by rfl) T.b_isinstance boot_isinstance_ (pa_cons (pv 0) (pa_cons (pe_bltn (v := .ty "int") (by rfl) T.t_int boot_int_ rfl) pa_nil))) (pe_and (pe_not (pe_callB call_isi (by rfl) T.b_isinstance boot_isinstance_ (pa_cons (pv 0) (pa_cons (pe_bltn (v := .ty "bool") (by rfl) T.t_bool boot_bool_ rfl) pa_nil)))) (pe_one (pe_chain op_le op_le (pv 1) (pv 0) (pv 2))))))), ?_⟩
    refine ⟨_, rfl, v, .ty "int", _, .type "int", _, rfl, .ty _, ty, kInt d, _, rfl, ?_⟩
    cases d with
    | int n =>
      cases d1Int hd
      refine iteT ?_
      refine ⟨_, rfl, _, .ty "bool", _, .type "bool", _, rfl, .ty _, ty, kBool _, _, rfl, _, rfl, ?_⟩
      refine iteT ?_
      refine ⟨_, rfl, _, rfl, _, _, rfl, rfl, _, rfl, ?_⟩
      have z := chain_end (Q := Q) q
      split
      · rename_i hl
        rw [if_pos hl] at z
        exact ⟨_, rfl, _, _, rfl, rfl, z⟩
      · rename_i hl
        rw [if_neg hl] at z
        exact z
    | bool x =>
      refine iteT ?_
      refine ⟨_, rfl, _, .ty "bool", _, .type "bool", _, rfl, .ty _, ty, kBool _, _, rfl, _, rfl, ?_⟩
      exact iteF q
    | none => exact iteF q
    | str x => exact iteF q
    | list x => exact iteF q
    | tuple x => exact iteF q
    | dict x => exact iteF q
def spNeedSt (C CL : Addr) : Sp := fun vs H Q _ => ∃ (N : Addr → Prop) (o : Addr) (n : Nat) (ow pc ks : List Nat) (st : Int) (fs : List (Str × V)) (lo hi : Nat), vs = [.ref o, num lo, num hi] ∧ RowB N H o C CL n ow pc ks st fs ∧ lo < hi ∧ hi ≤ n ∧ Q .non H
theorem ok_needst (T : Txt K mg) (OC : RowC K C) (c_is_whole : C8.Cal P w K mg base 1 "is_whole" spWhI []) (m_size : Met P w K mg base 1 C "size" (spSize C CL) []) (M : MAt K C "need_stretch" "Rows.need_stretch" s_Rows_need_stretch ["self", "low", "high"]) : Met P w K mg base 2 C "need_stretch" (spNeedSt C CL) [] := by
  refine M.met OC.cl sc_Rows_need_stretch (fun vs H Q E h => ?_) (fun f cdv A outer s H vs Q E hr h => ?_)
  · obtain ⟨N, o, n, ow, pc, ks, st, fs, lo, hi, rfl, _⟩ := h
    rfl
  · obtain ⟨N, o, n, ow, pc, ks, st, fs, lo, hi, rfl, x, h1, h2, q⟩ := h
    obtain ⟨dx, e1, nl⟩ := x.ins
    refine ⟨_, (pss_one (ps_if (PW.pt (pw_or (pt_not (pt_val (C8.pe_c c_is_whole hr (by decide) (by rfl) (pa_cons (pv 1) (pa_cons pe_int (pa_cons (pe_op op_sub (pe_mt0 m_size hr (by decide) (pv 0)) pe_int) pa_nil)))))) (pw_or1 (pt_not (pt_val (C8.pe_c c_is_whole hr (by decide) (by rfl) (pa_cons (pv 2) (pa_cons (pe_op op_add (pv 1) pe_int) (pa_cons (pe_mt0 m_size hr (by decide) (pv 0)) pa_nil)))))))))
          (pss_one ps_never) pss_nil)), ?_⟩
    refine ⟨_, rfl, _, rfl, o, dx, fs, rfl, e1, nl _ (by decide), N, o, n, ow, pc, ks, st, fs, rfl, x, _, _, rfl, rfl, ?_⟩
    refine ⟨(lo : Nat), 0, (n : Nat) - 1, rfl, by omega, by omega, _, rfl, iteF ?_⟩
    refine ⟨_, rfl, _, rfl, _, _, rfl, rfl, _, rfl, o, dx, fs, rfl, e1, nl _ (by decide), N, o, n, ow, pc, ks, st, fs, rfl, x, ?_⟩
    exact ⟨(hi : Nat), (lo : Nat) + 1, (n : Nat), rfl, by omega, by omega, _, rfl, iteF q⟩
end
theorem nin_nums {i : Nat} : ∀ {xs : List Nat}, i ∉ xs → inV (num i) (xs.map num) = false
  | [], _ => rfl
  | x :: xs, h => by
    have ne : x ≠ i := fun e => h (e ▸ List.mem_cons_self ..)
    have ih := nin_nums (i := i) (xs := xs) fun z => h (List.mem_cons_of_mem _ z)
    unfold inV at *
    rw [List.map_cons, List.any_cons, ih, eq_num, decide_eq_false (fun e => ne (by first | exact e | exact e.symm | omega))]
    rfl
theorem joinH {Pre : Hp → Prop} {G : Prop} {R : Hp → Prop} (main : (∀ H3, Pre H3 → R H3) → G) (rest : ∀ H3, Pre H3 → R H3) : G := main rest
/-- the refusals -/
structure RfT (P : Program) (K : PySem.W.Frag) (mg : Str → Option Value) (CA fA CN fN CP fP CS fS CW fW CG fG CM fM CE : Addr) : Prop where
  e_Elder : ErrTxt P K CA fA "Elder.__init__" "this is not the newest make"
  e_NoMake : ErrTxt P K CN fN "NoMake.__init__" "this is no make"
  e_NoPlace : ErrTxt P K CP fP "NoPlace.__init__" "this is no place"
  e_NoWorth : ErrTxt P K CW fW "NoWorth.__init__" "this is no worth"
  e_NoChanges : ErrTxt P K CG fG "NoChanges.__init__" "these are no changes"
  e_TooMany : Gk.ErrTxt P K CM fM "TooMany.__init__" "there would be too many"
  e_NoStretch : Gr.ErrTxt2 P K CS fS "NoStretch.__init__" "these two are no stretch"
  iA : IsTxt K CA
  g_Elder : mg "Elder" = some (.ref CA)
  mA : PySem.W.exmOne K (.ref CA) (.ref CE) = some true
  iN : IsTxt K CN
  g_NoMake : mg "NoMake" = some (.ref CN)
  mN : PySem.W.exmOne K (.ref CN) (.ref CE) = some true
  iP : IsTxt K CP
  g_NoPlace : mg "NoPlace" = some (.ref CP)
  mP : PySem.W.exmOne K (.ref CP) (.ref CE) = some true
  iW : IsTxt K CW
  g_NoWorth : mg "NoWorth" = some (.ref CW)
  mW : PySem.W.exmOne K (.ref CW) (.ref CE) = some true
  iG : IsTxt K CG
  g_NoChanges : mg "NoChanges" = some (.ref CG)
  mG : PySem.W.exmOne K (.ref CG) (.ref CE) = some true
  iM : IsTxt K CM
  g_TooMany : mg "TooMany" = some (.ref CM)
  mM : PySem.W.exmOne K (.ref CM) (.ref CE) = some true
  iS : IsTxt K CS
  g_NoStretch : mg "NoStretch" = some (.ref CS)
  mS : PySem.W.exmOne K (.ref CS) (.ref CE) = some true
  g_MakesError : mg "MakesError" = some (.ref CE)
  kAA : PySem.W.kitOne K (.ref CA) (.ref CA) = some true
  kNA : PySem.W.kitOne K (.ref CN) (.ref CA) = some false
  kNN : PySem.W.kitOne K (.ref CN) (.ref CN) = some true
  kPA : PySem.W.kitOne K (.ref CP) (.ref CA) = some false
  kPN : PySem.W.kitOne K (.ref CP) (.ref CN) = some false
  kPP : PySem.W.kitOne K (.ref CP) (.ref CP) = some true
  kWA : PySem.W.kitOne K (.ref CW) (.ref CA) = some false
  kWN : PySem.W.kitOne K (.ref CW) (.ref CN) = some false
  kWP : PySem.W.kitOne K (.ref CW) (.ref CP) = some false
  kWW : PySem.W.kitOne K (.ref CW) (.ref CW) = some true
  kGA : PySem.W.kitOne K (.ref CG) (.ref CA) = some false
  kGN : PySem.W.kitOne K (.ref CG) (.ref CN) = some false
  kGP : PySem.W.kitOne K (.ref CG) (.ref CP) = some false
  kGW : PySem.W.kitOne K (.ref CG) (.ref CW) = some false
  kGG : PySem.W.kitOne K (.ref CG) (.ref CG) = some true
  kMA : PySem.W.kitOne K (.ref CM) (.ref CA) = some false
  kMN : PySem.W.kitOne K (.ref CM) (.ref CN) = some false
  kMP : PySem.W.kitOne K (.ref CM) (.ref CP) = some false
  kMW : PySem.W.kitOne K (.ref CM) (.ref CW) = some false
  kMG : PySem.W.kitOne K (.ref CM) (.ref CG) = some false
  kMM : PySem.W.kitOne K (.ref CM) (.ref CM) = some true
  kSA : PySem.W.kitOne K (.ref CS) (.ref CA) = some false
  kSN : PySem.W.kitOne K (.ref CS) (.ref CN) = some false
  kSP : PySem.W.kitOne K (.ref CS) (.ref CP) = some false
  kSW : PySem.W.kitOne K (.ref CS) (.ref CW) = some false
  kSG : PySem.W.kitOne K (.ref CS) (.ref CG) = some false
  kSM : PySem.W.kitOne K (.ref CS) (.ref CM) = some false
  kSS : PySem.W.kitOne K (.ref CS) (.ref CS) = some true
theorem _root_.Gr.ErrTxt2.ce {P : Program} {K : PySem.W.Frag} {C fI : Addr} {qn msg : Str} (T : Gr.ErrTxt2 P K C fI qn msg) : Gc.ClsE K C := ⟨T.ga, T.gg, T.exC, T.hdC⟩
theorem _root_.Gk.ErrTxt.ce {P : Program} {K : PySem.W.Frag} {C fI : Addr} {qn msg : Str} (T : Gk.ErrTxt P K C fI qn msg) : Gc.ClsE K C := ⟨T.ga, T.gg, T.exC, T.hdC⟩
/-- a refusal: its class, what it keeps, what is told of it -/
def Rf (CA CN CP CS CW CG CM C : Addr) (fs : List (Str × V)) (vals : List V) : Prop :=
  (∃ v, CA = C ∧ fs = [(("found" : Str), v)] ∧ vals = [.str "elder", v]) ∨ (∃ v, CN = C ∧ fs = [(("found" : Str), v)] ∧ vals = [.str "make", v]) ∨ (∃ v, CP = C ∧ fs = [(("found" : Str), v)] ∧ vals = [.str "place", v]) ∨ (∃ v v2, CS = C ∧ fs = [(("low" : Str), v), (("high" : Str), v2)] ∧ vals = [.str "stretch", v, v2]) ∨ (∃ v, CW = C ∧ fs = [(("found" : Str), v)] ∧ vals = [.str "worth", v]) ∨ (∃ v, CG = C ∧ fs = [(("found" : Str), v)] ∧ vals = [.str "changes", v]) ∨ (∃ v, CM = C ∧ fs = [(("count" : Str), v)] ∧ vals = [.str "many", v])
section
variable {P : Program} {w : World} {K : PySem.W.Frag} {mg : Str → Option Value} {base : Heap} {CA fA CN fN CP fP CS fS CW fW CG fG CM fM CE : Addr}
theorem Rf.exm {C : Addr} {fs : List (Str × V)} {vals : List V} (R : RfT P K mg CA fA CN fN CP fP CS fS CW fW CG fG CM fM CE) (h : Rf CA CN CP CS CW CG CM C fs vals) : PySem.W.exmOne K (.ref C) (.ref CE) = some true := by
  rcases h with ⟨v, rfl, _⟩ | ⟨v, rfl, _⟩ | ⟨v, rfl, _⟩ | ⟨v, v2, rfl, _⟩ | ⟨v, rfl, _⟩ | ⟨v, rfl, _⟩ | ⟨v, rfl, _⟩
  · exact R.mA
  · exact R.mN
  · exact R.mP
  · exact R.mS
  · exact R.mW
  · exact R.mG
  · exact R.mM
def spCt (CA CN CP CS CW CG CM : Addr) : Gc.SpE := fun a cls d vs H Q _ => ∃ (dd C : Addr) (fs : List (Str × V)) (vals : List V), vs = [.ref a] ∧ Rf CA CN CP CS CW CG CM C fs vals ∧ cls = .ref C ∧ d = some dd ∧ H dd = some (.xd fs) ∧ ∀ (l : Addr) (H' : Hp), H l = none → H' l = some (.lst vals) → Same H H' → Q (.ref l) H'
theorem roomM {k j : Nat} {A : Around} {x : Option Value} (r : Room j A) (h : k ≤ j) : L2H.RoomH k (A.mark x) := ⟨by have := r.dp; show A.depth + 3 * k + 5 < recursionLimit; omega, by have := r.un; show A.units + 16 * k + 200 < cLine; omega⟩
theorem ok_ct (T : Txt K mg) (R : RfT P K mg CA fA CN fN CP fP CS fS CW fW CG fG CM fM CE) (D : DefAt K mg "_law_caught" s__law_caught ["_law_e"]) : Gc.CalE P w K mg base 1 "_law_caught" (spCt CA CN CP CS CW CG CM) := by
  refine Gc.DefAt.calE D sc__law_caught (fun a cls d vs H Q E h => ?_) (fun f cdv A outer s H vs Q E p cls d hz hf hr h => ?_)
  · obtain ⟨dd, C, fs, vals, rfl, _⟩ := h
    rfl
  have hp : ((p.1, p.2) : Addr × Obj) ∈ [p] := List.mem_singleton.mpr rfl
  obtain ⟨dd, C, fs, vals, rfl, hc, rfl, rfl, ed, q⟩ := h
  rcases hc with ⟨v, rfl, rfl, rfl⟩ | ⟨v, rfl, rfl, rfl⟩ | ⟨v, rfl, rfl, rfl⟩ | ⟨v, v2, rfl, rfl, rfl⟩ | ⟨v, rfl, rfl, rfl⟩ | ⟨v, rfl, rfl, rfl⟩ | ⟨v, rfl, rfl, rfl⟩
  · refine ⟨_, (pss_cons (ps_if (pt_val (pe_callB (Gc.call_isP R.e_Elder.ce R.iA hp hz hf) (by rfl) T.b_isinstance boot_isinstance_ (pa_cons (pv 0) (pa_cons (pe_glob (v := .ref CA) (by rfl) R.g_Elder rfl) pa_nil)))) (pss_one (ps_ret (pe_lst (pa_cons pe_str (pa_cons (Gc.pe_fldP R.e_Elder.ce R.e_Elder.noN hp hz hf (pv 0)) pa_nil))))) pss_nil)
      (pss_cons ps_never
      (pss_cons ps_never
      (pss_cons ps_never
      (pss_cons ps_never
      (pss_cons ps_never
      (pss_cons ps_never
      (pss_one ps_never)))))))), ?_⟩
    refine ⟨_, rfl, .ref CA, .ref CA, true, dd, _, rfl, rfl, rfl, ed, .own CA, R.kAA, _, rfl, iteT ?_⟩
    refine ⟨_, rfl, rfl, rfl, dd, _, v, rfl, ed, rfl, (by show 2 ≤ sizeLine; decide), fun l hl => ?_⟩
    exact q l _ hl upd_same (same_new hl)
  · refine ⟨_, (pss_cons (ps_if (pt_val (pe_callB (Gc.call_isP R.e_NoMake.ce R.iN hp hz hf) (by rfl) T.b_isinstance boot_isinstance_ (pa_cons (pv 0) (pa_cons (pe_glob (v := .ref CA) (by rfl) R.g_Elder rfl) pa_nil)))) (pss_one ps_never) pss_nil)
      (pss_cons (ps_if (pt_val (pe_callB (Gc.call_isP R.e_NoMake.ce R.iN hp hz hf) (by rfl) T.b_isinstance boot_isinstance_ (pa_cons (pv 0) (pa_cons (pe_glob (v := .ref CN) (by rfl) R.g_NoMake rfl) pa_nil)))) (pss_one (ps_ret (pe_lst (pa_cons pe_str (pa_cons (Gc.pe_fldP R.e_NoMake.ce R.e_NoMake.noN hp hz hf (pv 0)) pa_nil))))) pss_nil)
      (pss_cons ps_never
      (pss_cons ps_never
      (pss_cons ps_never
      (pss_cons ps_never
      (pss_cons ps_never
      (pss_one ps_never)))))))), ?_⟩
    refine ⟨_, rfl, .ref CA, .ref CA, false, dd, _, rfl, rfl, rfl, ed, .own CA, R.kNA, _, rfl, iteF ?_⟩
    refine ⟨_, rfl, .ref CN, .ref CN, true, dd, _, rfl, rfl, rfl, ed, .own CN, R.kNN, _, rfl, iteT ?_⟩
    refine ⟨_, rfl, rfl, rfl, dd, _, v, rfl, ed, rfl, (by show 2 ≤ sizeLine; decide), fun l hl => ?_⟩
    exact q l _ hl upd_same (same_new hl)
  · refine ⟨_, (pss_cons (ps_if (pt_val (pe_callB (Gc.call_isP R.e_NoPlace.ce R.iP hp hz hf) (by rfl) T.b_isinstance boot_isinstance_ (pa_cons (pv 0) (pa_cons (pe_glob (v := .ref CA) (by rfl) R.g_Elder rfl) pa_nil)))) (pss_one ps_never) pss_nil)
      (pss_cons (ps_if (pt_val (pe_callB (Gc.call_isP R.e_NoPlace.ce R.iP hp hz hf) (by rfl) T.b_isinstance boot_isinstance_ (pa_cons (pv 0) (pa_cons (pe_glob (v := .ref CN) (by rfl) R.g_NoMake rfl) pa_nil)))) (pss_one ps_never) pss_nil)
      (pss_cons (ps_if (pt_val (pe_callB (Gc.call_isP R.e_NoPlace.ce R.iP hp hz hf) (by rfl) T.b_isinstance boot_isinstance_ (pa_cons (pv 0) (pa_cons (pe_glob (v := .ref CP) (by rfl) R.g_NoPlace rfl) pa_nil)))) (pss_one (ps_ret (pe_lst (pa_cons pe_str (pa_cons (Gc.pe_fldP R.e_NoPlace.ce R.e_NoPlace.noN hp hz hf (pv 0)) pa_nil))))) pss_nil)
      (pss_cons ps_never
      (pss_cons ps_never
      (pss_cons ps_never
      (pss_cons ps_never
      (pss_one ps_never)))))))), ?_⟩
    refine ⟨_, rfl, .ref CA, .ref CA, false, dd, _, rfl, rfl, rfl, ed, .own CA, R.kPA, _, rfl, iteF ?_⟩
    refine ⟨_, rfl, .ref CN, .ref CN, false, dd, _, rfl, rfl, rfl, ed, .own CN, R.kPN, _, rfl, iteF ?_⟩
    refine ⟨_, rfl, .ref CP, .ref CP, true, dd, _, rfl, rfl, rfl, ed, .own CP, R.kPP, _, rfl, iteT ?_⟩
    refine ⟨_, rfl, rfl, rfl, dd, _, v, rfl, ed, rfl, (by show 2 ≤ sizeLine; decide), fun l hl => ?_⟩
    exact q l _ hl upd_same (same_new hl)
  · refine ⟨_, (pss_cons (ps_if (pt_val (pe_callB (Gc.call_isP R.e_NoStretch.ce R.iS hp hz hf) (by rfl) T.b_isinstance boot_isinstance_ (pa_cons (pv 0) (pa_cons (pe_glob (v := .ref CA) (by rfl) R.g_Elder rfl) pa_nil)))) (pss_one ps_never) pss_nil)
      (pss_cons (ps_if (pt_val (pe_callB (Gc.call_isP R.e_NoStretch.ce R.iS hp hz hf) (by rfl) T.b_isinstance boot_isinstance_ (pa_cons (pv 0) (pa_cons (pe_glob (v := .ref CN) (by rfl) R.g_NoMake rfl) pa_nil)))) (pss_one ps_never) pss_nil)
      (pss_cons (ps_if (pt_val (pe_callB (Gc.call_isP R.e_NoStretch.ce R.iS hp hz hf) (by rfl) T.b_isinstance boot_isinstance_ (pa_cons (pv 0) (pa_cons (pe_glob (v := .ref CP) (by rfl) R.g_NoPlace rfl) pa_nil)))) (pss_one ps_never) pss_nil)
      (pss_cons (ps_if (pt_val (pe_callB (Gc.call_isP R.e_NoStretch.ce R.iS hp hz hf) (by rfl) T.b_isinstance boot_isinstance_ (pa_cons (pv 0) (pa_cons (pe_glob (v := .ref CW) (by rfl) R.g_NoWorth rfl) pa_nil)))) (pss_one ps_never) pss_nil)
      (pss_cons (ps_if (pt_val (pe_callB (Gc.call_isP R.e_NoStretch.ce R.iS hp hz hf) (by rfl) T.b_isinstance boot_isinstance_ (pa_cons (pv 0) (pa_cons (pe_glob (v := .ref CG) (by rfl) R.g_NoChanges rfl) pa_nil)))) (pss_one ps_never) pss_nil)
      (pss_cons (ps_if (pt_val (pe_callB (Gc.call_isP R.e_NoStretch.ce R.iS hp hz hf) (by rfl) T.b_isinstance boot_isinstance_ (pa_cons (pv 0) (pa_cons (pe_glob (v := .ref CM) (by rfl) R.g_TooMany rfl) pa_nil)))) (pss_one ps_never) pss_nil)
      (pss_cons (ps_if (pt_val (pe_callB (Gc.call_isP R.e_NoStretch.ce R.iS hp hz hf) (by rfl) T.b_isinstance boot_isinstance_ (pa_cons (pv 0) (pa_cons (pe_glob (v := .ref CS) (by rfl) R.g_NoStretch rfl) pa_nil)))) (pss_one (ps_ret (pe_lst (pa_cons pe_str (pa_cons (Gc.pe_fldP R.e_NoStretch.ce R.e_NoStretch.noN hp hz hf (pv 0)) (pa_cons (Gc.pe_fldP R.e_NoStretch.ce R.e_NoStretch.noM hp hz hf (pv 0)) pa_nil)))))) pss_nil)
      (pss_one ps_never)))))))), ?_⟩
    refine ⟨_, rfl, .ref CA, .ref CA, false, dd, _, rfl, rfl, rfl, ed, .own CA, R.kSA, _, rfl, iteF ?_⟩
    refine ⟨_, rfl, .ref CN, .ref CN, false, dd, _, rfl, rfl, rfl, ed, .own CN, R.kSN, _, rfl, iteF ?_⟩
    refine ⟨_, rfl, .ref CP, .ref CP, false, dd, _, rfl, rfl, rfl, ed, .own CP, R.kSP, _, rfl, iteF ?_⟩
    refine ⟨_, rfl, .ref CW, .ref CW, false, dd, _, rfl, rfl, rfl, ed, .own CW, R.kSW, _, rfl, iteF ?_⟩
    refine ⟨_, rfl, .ref CG, .ref CG, false, dd, _, rfl, rfl, rfl, ed, .own CG, R.kSG, _, rfl, iteF ?_⟩
    refine ⟨_, rfl, .ref CM, .ref CM, false, dd, _, rfl, rfl, rfl, ed, .own CM, R.kSM, _, rfl, iteF ?_⟩
    refine ⟨_, rfl, .ref CS, .ref CS, true, dd, _, rfl, rfl, rfl, ed, .own CS, R.kSS, _, rfl, iteT ?_⟩
    refine ⟨_, rfl, rfl, rfl, dd, _, v, rfl, ed, rfl, _, rfl, rfl, rfl, dd, _, v2, rfl, ed, rfl, (by show 3 ≤ sizeLine; decide), fun l hl => ?_⟩
    exact q l _ hl upd_same (same_new hl)
  · refine ⟨_, (pss_cons (ps_if (pt_val (pe_callB (Gc.call_isP R.e_NoWorth.ce R.iW hp hz hf) (by rfl) T.b_isinstance boot_isinstance_ (pa_cons (pv 0) (pa_cons (pe_glob (v := .ref CA) (by rfl) R.g_Elder rfl) pa_nil)))) (pss_one ps_never) pss_nil)
      (pss_cons (ps_if (pt_val (pe_callB (Gc.call_isP R.e_NoWorth.ce R.iW hp hz hf) (by rfl) T.b_isinstance boot_isinstance_ (pa_cons (pv 0) (pa_cons (pe_glob (v := .ref CN) (by rfl) R.g_NoMake rfl) pa_nil)))) (pss_one ps_never) pss_nil)
      (pss_cons (ps_if (pt_val (pe_callB (Gc.call_isP R.e_NoWorth.ce R.iW hp hz hf) (by rfl) T.b_isinstance boot_isinstance_ (pa_cons (pv 0) (pa_cons (pe_glob (v := .ref CP) (by rfl) R.g_NoPlace rfl) pa_nil)))) (pss_one ps_never) pss_nil)
      (pss_cons (ps_if (pt_val (pe_callB (Gc.call_isP R.e_NoWorth.ce R.iW hp hz hf) (by rfl) T.b_isinstance boot_isinstance_ (pa_cons (pv 0) (pa_cons (pe_glob (v := .ref CW) (by rfl) R.g_NoWorth rfl) pa_nil)))) (pss_one (ps_ret (pe_lst (pa_cons pe_str (pa_cons (Gc.pe_fldP R.e_NoWorth.ce R.e_NoWorth.noN hp hz hf (pv 0)) pa_nil))))) pss_nil)
      (pss_cons ps_never
      (pss_cons ps_never
      (pss_cons ps_never
      (pss_one ps_never)))))))), ?_⟩
    refine ⟨_, rfl, .ref CA, .ref CA, false, dd, _, rfl, rfl, rfl, ed, .own CA, R.kWA, _, rfl, iteF ?_⟩
    refine ⟨_, rfl, .ref CN, .ref CN, false, dd, _, rfl, rfl, rfl, ed, .own CN, R.kWN, _, rfl, iteF ?_⟩
    refine ⟨_, rfl, .ref CP, .ref CP, false, dd, _, rfl, rfl, rfl, ed, .own CP, R.kWP, _, rfl, iteF ?_⟩
    refine ⟨_, rfl, .ref CW, .ref CW, true, dd, _, rfl, rfl, rfl, ed, .own CW, R.kWW, _, rfl, iteT ?_⟩
    refine ⟨_, rfl, rfl, rfl, dd, _, v, rfl, ed, rfl, (by show 2 ≤ sizeLine; decide), fun l hl => ?_⟩
    exact q l _ hl upd_same (same_new hl)
  · refine ⟨_, (pss_cons (ps_if (pt_val (pe_callB (Gc.call_isP R.e_NoChanges.ce R.iG hp hz hf) (by rfl) T.b_isinstance boot_isinstance_ (pa_cons (pv 0) (pa_cons (pe_glob (v := .ref CA) (by rfl) R.g_Elder rfl) pa_nil)))) (pss_one ps_never) pss_nil)
      (pss_cons (ps_if (pt_val (pe_callB (Gc.call_isP R.e_NoChanges.ce R.iG hp hz hf) (by rfl) T.b_isinstance boot_isinstance_ (pa_cons (pv 0) (pa_cons (pe_glob (v := .ref CN) (by rfl) R.g_NoMake rfl) pa_nil)))) (pss_one ps_never) pss_nil)
      (pss_cons (ps_if (pt_val (pe_callB (Gc.call_isP R.e_NoChanges.ce R.iG hp hz hf) (by rfl) T.b_isinstance boot_isinstance_ (pa_cons (pv 0) (pa_cons (pe_glob (v := .ref CP) (by rfl) R.g_NoPlace rfl) pa_nil)))) (pss_one ps_never) pss_nil)
      (pss_cons (ps_if (pt_val (pe_callB (Gc.call_isP R.e_NoChanges.ce R.iG hp hz hf) (by rfl) T.b_isinstance boot_isinstance_ (pa_cons (pv 0) (pa_cons (pe_glob (v := .ref CW) (by rfl) R.g_NoWorth rfl) pa_nil)))) (pss_one ps_never) pss_nil)
      (pss_cons (ps_if (pt_val (pe_callB (Gc.call_isP R.e_NoChanges.ce R.iG hp hz hf) (by rfl) T.b_isinstance boot_isinstance_ (pa_cons (pv 0) (pa_cons (pe_glob (v := .ref CG) (by rfl) R.g_NoChanges rfl) pa_nil)))) (pss_one (ps_ret (pe_lst (pa_cons pe_str (pa_cons (Gc.pe_fldP R.e_NoChanges.ce R.e_NoChanges.noN hp hz hf (pv 0)) pa_nil))))) pss_nil)
      (pss_cons ps_never
      (pss_cons ps_never
      (pss_one ps_never)))))))), ?_⟩
    refine ⟨_, rfl, .ref CA, .ref CA, false, dd, _, rfl, rfl, rfl, ed, .own CA, R.kGA, _, rfl, iteF ?_⟩
    refine ⟨_, rfl, .ref CN, .ref CN, false, dd, _, rfl, rfl, rfl, ed, .own CN, R.kGN, _, rfl, iteF ?_⟩
    refine ⟨_, rfl, .ref CP, .ref CP, false, dd, _, rfl, rfl, rfl, ed, .own CP, R.kGP, _, rfl, iteF ?_⟩
    refine ⟨_, rfl, .ref CW, .ref CW, false, dd, _, rfl, rfl, rfl, ed, .own CW, R.kGW, _, rfl, iteF ?_⟩
    refine ⟨_, rfl, .ref CG, .ref CG, true, dd, _, rfl, rfl, rfl, ed, .own CG, R.kGG, _, rfl, iteT ?_⟩
    refine ⟨_, rfl, rfl, rfl, dd, _, v, rfl, ed, rfl, (by show 2 ≤ sizeLine; decide), fun l hl => ?_⟩
    exact q l _ hl upd_same (same_new hl)
  · refine ⟨_, (pss_cons (ps_if (pt_val (pe_callB (Gc.call_isP R.e_TooMany.ce R.iM hp hz hf) (by rfl) T.b_isinstance boot_isinstance_ (pa_cons (pv 0) (pa_cons (pe_glob (v := .ref CA) (by rfl) R.g_Elder rfl) pa_nil)))) (pss_one ps_never) pss_nil)
      (pss_cons (ps_if (pt_val (pe_callB (Gc.call_isP R.e_TooMany.ce R.iM hp hz hf) (by rfl) T.b_isinstance boot_isinstance_ (pa_cons (pv 0) (pa_cons (pe_glob (v := .ref CN) (by rfl) R.g_NoMake rfl) pa_nil)))) (pss_one ps_never) pss_nil)
      (pss_cons (ps_if (pt_val (pe_callB (Gc.call_isP R.e_TooMany.ce R.iM hp hz hf) (by rfl) T.b_isinstance boot_isinstance_ (pa_cons (pv 0) (pa_cons (pe_glob (v := .ref CP) (by rfl) R.g_NoPlace rfl) pa_nil)))) (pss_one ps_never) pss_nil)
      (pss_cons (ps_if (pt_val (pe_callB (Gc.call_isP R.e_TooMany.ce R.iM hp hz hf) (by rfl) T.b_isinstance boot_isinstance_ (pa_cons (pv 0) (pa_cons (pe_glob (v := .ref CW) (by rfl) R.g_NoWorth rfl) pa_nil)))) (pss_one ps_never) pss_nil)
      (pss_cons (ps_if (pt_val (pe_callB (Gc.call_isP R.e_TooMany.ce R.iM hp hz hf) (by rfl) T.b_isinstance boot_isinstance_ (pa_cons (pv 0) (pa_cons (pe_glob (v := .ref CG) (by rfl) R.g_NoChanges rfl) pa_nil)))) (pss_one ps_never) pss_nil)
      (pss_cons (ps_if (pt_val (pe_callB (Gc.call_isP R.e_TooMany.ce R.iM hp hz hf) (by rfl) T.b_isinstance boot_isinstance_ (pa_cons (pv 0) (pa_cons (pe_glob (v := .ref CM) (by rfl) R.g_TooMany rfl) pa_nil)))) (pss_one (ps_ret (pe_lst (pa_cons pe_str (pa_cons (Gc.pe_fldP R.e_TooMany.ce R.e_TooMany.noN hp hz hf (pv 0)) pa_nil))))) pss_nil)
      (pss_cons ps_never
      (pss_one ps_never)))))))), ?_⟩
    refine ⟨_, rfl, .ref CA, .ref CA, false, dd, _, rfl, rfl, rfl, ed, .own CA, R.kMA, _, rfl, iteF ?_⟩
    refine ⟨_, rfl, .ref CN, .ref CN, false, dd, _, rfl, rfl, rfl, ed, .own CN, R.kMN, _, rfl, iteF ?_⟩
    refine ⟨_, rfl, .ref CP, .ref CP, false, dd, _, rfl, rfl, rfl, ed, .own CP, R.kMP, _, rfl, iteF ?_⟩
    refine ⟨_, rfl, .ref CW, .ref CW, false, dd, _, rfl, rfl, rfl, ed, .own CW, R.kMW, _, rfl, iteF ?_⟩
    refine ⟨_, rfl, .ref CG, .ref CG, false, dd, _, rfl, rfl, rfl, ed, .own CG, R.kMG, _, rfl, iteF ?_⟩
    refine ⟨_, rfl, .ref CM, .ref CM, true, dd, _, rfl, rfl, rfl, ed, .own CM, R.kMM, _, rfl, iteT ?_⟩
    refine ⟨_, rfl, rfl, rfl, dd, _, v, rfl, ed, rfl, (by show 2 ≤ sizeLine; decide), fun l hl => ?_⟩
    exact q l _ hl upd_same (same_new hl)
end
end K41
namespace K41
open PySem PySem.Spec PyProof.Rows L2 Gd Gs Gx Ge
open NdefX (NScope nscope_by ncx startF NF)
open C8 (clsBody Met pe_mt pe_mt0)
section
variable {P : Program} {w : World} {K : PySem.W.Frag} {mg : Str → Option Value} {base : Heap} {C CL CA fA CN fN CP fP CS fS CW fW CG fG CM fM CE : Addr}
/-- a thing that is no kept make -/
def NoK (ow ks : List Nat) (d : PyData) : Prop := wholeD d 0 (ow.length : Nat) = false ∨ ∃ i : Nat, d = .int (i : Nat) ∧ i ≤ ow.length ∧ i ∉ ks
/-- two that are no stretch -/
def NoS (n : Nat) (d d2 : PyData) : Prop := wholeD d 0 ((n : Nat) - 1 : Int) = false ∨ ∃ l : Nat, d = .int (l : Nat) ∧ l < n ∧ wholeD d2 ((l : Nat) + 1) (n : Nat) = false
abbrev RB (C CL : Addr) (N : Addr → Prop) (H : Hp) (o : Addr) (n : Nat) (ow pc ks : List Nat) (st : Int) (fs : List (Str × V)) : Prop := RowB N H o C CL n ow pc ks st fs
def spNk (K : PySem.W.Frag) (CX C CL : Addr) : Sp := fun vs H Q E => ∃ (N : Addr → Prop) (o : Addr) (n : Nat) (ow pc ks : List Nat) (st : Int) (fs : List (Str × V)) (v : V) (d : PyData), vs = [.ref o, v] ∧ RowB N H o C CL n ow pc ks st fs ∧ D1 K H v d ∧ NoK ow ks d ∧ ∀ a, H a = none → E (.ref CX) (some a) (upd H a (.xd [("found", v)]))
def spNp (K : PySem.W.Frag) (CX C CL : Addr) : Sp := fun vs H Q E => ∃ (N : Addr → Prop) (o : Addr) (n : Nat) (ow pc ks : List Nat) (st : Int) (fs : List (Str × V)) (v : V) (d : PyData), vs = [.ref o, v] ∧ RowB N H o C CL n ow pc ks st fs ∧ D1 K H v d ∧ wholeD d 0 ((n : Nat) - 1 : Int) = false ∧ ∀ a, H a = none → E (.ref CX) (some a) (upd H a (.xd [("found", v)]))
def spNt (K : PySem.W.Frag) (CX C CL : Addr) : Sp := fun vs H Q E => ∃ (N : Addr → Prop) (o : Addr) (n : Nat) (ow pc ks : List Nat) (st : Int) (fs : List (Str × V)) (v : V) (d : PyData), vs = [.ref o, v] ∧ RowB N H o C CL n ow pc ks st fs ∧ D1 K H v d ∧ wholeD d 0 (ow.length : Nat) = false ∧ ∀ a, H a = none → E (.ref CX) (some a) (upd H a (.xd [("found", v)]))
def spNs (K : PySem.W.Frag) (CX C CL : Addr) : Sp := fun vs H Q E => ∃ (N : Addr → Prop) (o : Addr) (n : Nat) (ow pc ks : List Nat) (st : Int) (fs : List (Str × V)) (v v2 : V) (d d2 : PyData), vs = [.ref o, v, v2] ∧ RowB N H o C CL n ow pc ks st fs ∧ D1 K H v d ∧ D1 K H v2 d2 ∧ NoS n d d2 ∧ ∀ a, H a = none → E (.ref CX) (some a) (upd H a (.xd [("low", v), ("high", v2)]))
def spAtK (K : PySem.W.Frag) (CX C CL : Addr) : Sp := fun vs H Q E => ∃ (N : Addr → Prop) (o : Addr) (n : Nat) (ow pc ks : List Nat) (st : Int) (fs : List (Str × V)) (v u : V) (d : PyData), vs = [.ref o, v, u] ∧ RowB N H o C CL n ow pc ks st fs ∧ D1 K H v d ∧ NoK ow ks d ∧ ∀ a, H a = none → E (.ref CX) (some a) (upd H a (.xd [("found", v)]))
def spAtP (K : PySem.W.Frag) (CX C CL : Addr) : Sp := fun vs H Q E => ∃ (N : Addr → Prop) (o : Addr) (n : Nat) (ow pc ks : List Nat) (st : Int) (fs : List (Str × V)) (i : Nat) (v : V) (d : PyData), vs = [.ref o, num i, v] ∧ RowB N H o C CL n ow pc ks st fs ∧ i ≤ ow.length ∧ i ∈ ks ∧ D1 K H v d ∧ wholeD d 0 ((n : Nat) - 1 : Int) = false ∧ ∀ a, H a = none → E (.ref CX) (some a) (upd H a (.xd [("found", v)]))
def spStK (K : PySem.W.Frag) (CX C CL : Addr) : Sp := fun vs H Q E => ∃ (N : Addr → Prop) (o : Addr) (n : Nat) (ow pc ks : List Nat) (st : Int) (fs : List (Str × V)) (v u u2 : V) (d : PyData), vs = [.ref o, v, u, u2] ∧ RowB N H o C CL n ow pc ks st fs ∧ D1 K H v d ∧ NoK ow ks d ∧ ∀ a, H a = none → E (.ref CX) (some a) (upd H a (.xd [("found", v)]))
def spStS (K : PySem.W.Frag) (CX C CL : Addr) : Sp := fun vs H Q E => ∃ (N : Addr → Prop) (o : Addr) (n : Nat) (ow pc ks : List Nat) (st : Int) (fs : List (Str × V)) (i : Nat) (v v2 : V) (d d2 : PyData), vs = [.ref o, num i, v, v2] ∧ RowB N H o C CL n ow pc ks st fs ∧ i ≤ ow.length ∧ i ∈ ks ∧ D1 K H v d ∧ D1 K H v2 d2 ∧ NoS n d d2 ∧ ∀ a, H a = none → E (.ref CX) (some a) (upd H a (.xd [("low", v), ("high", v2)]))
def spWrK (K : PySem.W.Frag) (CX C CL : Addr) : Sp := fun vs H Q E => ∃ (N : Addr → Prop) (o : Addr) (n : Nat) (ow pc ks : List Nat) (st : Int) (fs : List (Str × V)) (v u : V) (d : PyData), vs = [.ref o, v, u] ∧ RowB N H o C CL n ow pc ks st fs ∧ D1 K H v d ∧ wholeD d 0 (ow.length : Nat) = false ∧ ∀ a, H a = none → E (.ref CX) (some a) (upd H a (.xd [("found", v)]))
def spWrP (K : PySem.W.Frag) (CX C CL : Addr) : Sp := fun vs H Q E => ∃ (N : Addr → Prop) (o : Addr) (n : Nat) (ow pc ks : List Nat) (st : Int) (fs : List (Str × V)) (i : Nat) (v : V) (d : PyData), vs = [.ref o, num i, v] ∧ RowB N H o C CL n ow pc ks st fs ∧ i ≤ ow.length ∧ D1 K H v d ∧ wholeD d 0 ((n : Nat) - 1 : Int) = false ∧ ∀ a, H a = none → E (.ref CX) (some a) (upd H a (.xd [("found", v)]))

theorem ok_nk (T : Txt K mg) (R : RfT P K mg CA fA CN fN CP fP CS fS CW fW CG fG CM fM CE) (OC : RowC K C) (c_is_whole : C8.Cal P w K mg base 1 "is_whole" (spWhole K) []) (m_many : Met P w K mg base 1 C "many" (spRMany C CL) []) (M : MAt K C "need_make" "Rows.need_make" s_Rows_need_make ["self", "make"]) : MetX P w K mg base 2 C "need_make" (spNk K CN C CL) := by
  refine M.metX OC.cl sc_Rows_need_make (fun vs H Q E h => ?_) (fun f cdv A outer s H vs Q E hr h => ?_)
  · obtain ⟨N, o, n, ow, pc, ks, st, fs, v, d, rfl, _⟩ := h
    rfl
  · obtain ⟨N, o, n, ow, pc, ks, st, fs, v, d, rfl, r, rest⟩ := h
    obtain ⟨dx, e1, nl⟩ := r.ins
    obtain ⟨hd, bad, q⟩ := rest
    refine ⟨_, (pss_one (ps_if (PW.pt (pw_or (pt_not (pt_val (C8.pe_c c_is_whole hr (by decide) (by rfl) (pa_cons (pv 1) (pa_cons pe_int (pa_cons (pe_op op_sub (pe_mt0 m_many hr (by decide) (pv 0)) pe_int) pa_nil)))))) (pw_or1 (pt_cmpR op_notIn_seq (pv 1) (pe_fld (pv 0) rfl) (by rfl)))))
          (pss_one (ps_raiseE rfl R.e_NoMake R.g_NoMake hr (takes_of rfl rfl rfl rfl) (by exact (pa_cons (pv 1) pa_nil)) (by rfl))) pss_nil)), ?_⟩
    refine ⟨_, rfl, _, rfl, o, dx, fs, rfl, e1, nl _ (by decide), N, o, n, ow, pc, ks, st, fs, rfl, r, _, _, rfl, rfl, v, d, 0, (ow.length : Nat), ?_, hd, ?_⟩
    · show [v, V.int 0, V.int (((ow.length + 1 : Nat) : Int) - 1)] = _
      rw [show ((ow.length + 1 : Nat) : Int) - 1 = (ow.length : Nat) from by omega]
    cases hw : wholeD d 0 (ow.length : Nat) with
    | false => exact ⟨_, rfl, iteT (iteT ⟨_, rfl, v, rfl, q⟩)⟩
    | true =>
      obtain ⟨i, rfl, hi, hn⟩ : ∃ i : Nat, d = .int (i : Nat) ∧ i ≤ ow.length ∧ i ∉ ks := bad.elim (fun z => by rw [z] at hw; cases hw) id
      obtain rfl := d1Int hd
      obtain ⟨dx, t, p, kk, Nt, e1, l1, l2, l3, l4, l5, nl, lf, lw, e2, e3, _⟩ := r.ex
      refine ⟨_, rfl, iteF ?_⟩
      refine ⟨_, rfl, _, rfl, o, C, dx, fs, .ref kk, rfl, e1, OC.cl, OC.n_kept, l4, kk, _, rfl, .inl (SqL.of e3), rfl, flat_nums ks, ?_⟩
      rw [show (V.int ((i : Nat) : Int)) = num i from rfl, nin_nums hn]
      exact ⟨_, rfl, iteT ⟨_, rfl, _, rfl, q⟩⟩
theorem ok_npB (T : Txt K mg) (R : RfT P K mg CA fA CN fN CP fP CS fS CW fW CG fG CM fM CE) (OC : RowC K C) (c_is_whole : C8.Cal P w K mg base 1 "is_whole" (spWhole K) []) (m_size : Met P w K mg base 1 C "size" (spSize C CL) []) (M : MAt K C "need_place" "Rows.need_place" s_Rows_need_place ["self", "place"]) : MetX P w K mg base 2 C "need_place" (spNp K CP C CL) := by
  refine M.metX OC.cl sc_Rows_need_place (fun vs H Q E h => ?_) (fun f cdv A outer s H vs Q E hr h => ?_)
  · obtain ⟨N, o, n, ow, pc, ks, st, fs, v, d, rfl, _⟩ := h
    rfl
  · obtain ⟨N, o, n, ow, pc, ks, st, fs, v, d, rfl, r, rest⟩ := h
    obtain ⟨dx, e1, nl⟩ := r.ins
    obtain ⟨hd, bad, q⟩ := rest
    refine ⟨_, (pss_one (ps_if (pt_not (pt_val (C8.pe_c c_is_whole hr (by decide) (by rfl) (pa_cons (pv 1) (pa_cons pe_int (pa_cons (pe_op op_sub (pe_mt0 m_size hr (by decide) (pv 0)) pe_int) pa_nil))))))
          (pss_one (ps_raiseE rfl R.e_NoPlace R.g_NoPlace hr (takes_of rfl rfl rfl rfl) (by exact (pa_cons (pv 1) pa_nil)) (by rfl))) pss_nil)), ?_⟩
    refine ⟨_, rfl, _, rfl, o, dx, fs, rfl, e1, nl _ (by decide), N, o, n, ow, pc, ks, st, fs, rfl, r, _, _, rfl, rfl, v, d, 0, ((n : Nat) - 1 : Int), rfl, hd, ?_⟩
    rw [bad]
    exact ⟨_, rfl, iteT ⟨_, rfl, v, rfl, q⟩⟩
theorem ok_nt (T : Txt K mg) (R : RfT P K mg CA fA CN fN CP fP CS fS CW fW CG fG CM fM CE) (OC : RowC K C) (c_is_whole : C8.Cal P w K mg base 1 "is_whole" (spWhole K) []) (m_many : Met P w K mg base 1 C "many" (spRMany C CL) []) (M : MAt K C "_row_need_there" "Rows._row_need_there" s_Rows__row_need_there ["self", "make"]) : MetX P w K mg base 2 C "_row_need_there" (spNt K CN C CL) := by
  refine M.metX OC.cl sc_Rows__row_need_there (fun vs H Q E h => ?_) (fun f cdv A outer s H vs Q E hr h => ?_)
  · obtain ⟨N, o, n, ow, pc, ks, st, fs, v, d, rfl, _⟩ := h
    rfl
  · obtain ⟨N, o, n, ow, pc, ks, st, fs, v, d, rfl, r, rest⟩ := h
    obtain ⟨dx, e1, nl⟩ := r.ins
    obtain ⟨hd, bad, q⟩ := rest
    refine ⟨_, (pss_one (ps_if (pt_not (pt_val (C8.pe_c c_is_whole hr (by decide) (by rfl) (pa_cons (pv 1) (pa_cons pe_int (pa_cons (pe_op op_sub (pe_mt0 m_many hr (by decide) (pv 0)) pe_int) pa_nil))))))
          (pss_one (ps_raiseE rfl R.e_NoMake R.g_NoMake hr (takes_of rfl rfl rfl rfl) (by exact (pa_cons (pv 1) pa_nil)) (by rfl))) pss_nil)), ?_⟩
    refine ⟨_, rfl, _, rfl, o, dx, fs, rfl, e1, nl _ (by decide), N, o, n, ow, pc, ks, st, fs, rfl, r, _, _, rfl, rfl, v, d, 0, (ow.length : Nat), ?_, hd, ?_⟩
    · show [v, V.int 0, V.int (((ow.length + 1 : Nat) : Int) - 1)] = _
      rw [show ((ow.length + 1 : Nat) : Int) - 1 = (ow.length : Nat) from by omega]
    rw [bad]
    exact ⟨_, rfl, iteT ⟨_, rfl, v, rfl, q⟩⟩
theorem ok_ns (T : Txt K mg) (R : RfT P K mg CA fA CN fN CP fP CS fS CW fW CG fG CM fM CE) (OC : RowC K C) (c_is_whole : C8.Cal P w K mg base 1 "is_whole" (spWhole K) []) (m_size : Met P w K mg base 1 C "size" (spSize C CL) []) (M : MAt K C "need_stretch" "Rows.need_stretch" s_Rows_need_stretch ["self", "low", "high"]) : MetX P w K mg base 2 C "need_stretch" (spNs K CS C CL) := by
  refine M.metX OC.cl sc_Rows_need_stretch (fun vs H Q E h => ?_) (fun f cdv A outer s H vs Q E hr h => ?_)
  · obtain ⟨N, o, n, ow, pc, ks, st, fs, v, v2, d, d2, rfl, _⟩ := h
    rfl
  · obtain ⟨N, o, n, ow, pc, ks, st, fs, v, v2, d, d2, rfl, r, rest⟩ := h
    obtain ⟨dx, e1, nl⟩ := r.ins
    obtain ⟨hd, hd2, bad, q⟩ := rest
    refine ⟨_, (pss_one (ps_if (PW.pt (pw_or (pt_not (pt_val (C8.pe_c c_is_whole hr (by decide) (by rfl) (pa_cons (pv 1) (pa_cons pe_int (pa_cons (pe_op op_sub (pe_mt0 m_size hr (by decide) (pv 0)) pe_int) pa_nil)))))) (pw_or1 (pt_not (pt_val (C8.pe_c c_is_whole hr (by decide) (by rfl) (pa_cons (pv 2) (pa_cons (pe_op op_add (pv 1) pe_int) (pa_cons (pe_mt0 m_size hr (by decide) (pv 0)) pa_nil)))))))))
          (pss_one (Gr.ps_raiseE2 rfl R.e_NoStretch R.g_NoStretch hr (takes_of rfl rfl rfl rfl) (by exact (pa_cons (pv 1) (pa_cons (pv 2) pa_nil))) (by rfl))) pss_nil)), ?_⟩
    refine ⟨_, rfl, _, rfl, o, dx, fs, rfl, e1, nl _ (by decide), N, o, n, ow, pc, ks, st, fs, rfl, r, _, _, rfl, rfl, v, d, 0, ((n : Nat) - 1 : Int), rfl, hd, ?_⟩
    cases hw : wholeD d 0 ((n : Nat) - 1 : Int) with
    | false => exact ⟨_, rfl, iteT (iteT ⟨_, rfl, _, rfl, v, v2, rfl, q⟩)⟩
    | true =>
      obtain ⟨l, rfl, hl, hn⟩ : ∃ l : Nat, d = .int (l : Nat) ∧ l < n ∧ wholeD d2 ((l : Nat) + 1) (n : Nat) = false := bad.elim (fun z => by rw [z] at hw; cases hw) id
      obtain rfl := d1Int hd
      refine ⟨_, rfl, iteF ?_⟩
      refine ⟨_, rfl, _, rfl, _, _, rfl, rfl, _, rfl, o, dx, fs, rfl, e1, nl _ (by decide), N, o, n, ow, pc, ks, st, fs, rfl, r, v2, d2, ((l : Nat) + 1 : Int), (n : Nat), rfl, hd2, ?_⟩
      rw [hn]
      exact ⟨_, rfl, iteT ⟨_, rfl, _, rfl, _, v2, rfl, q⟩⟩
theorem ok_atK (T : Txt K mg) (R : RfT P K mg CA fA CN fN CP fP CS fS CW fW CG fG CM fM CE) (OC : RowC K C) (x_need : MetX P w K mg base 2 C "need_make" (spNk K CN C CL)) (m_need_place : Met P w K mg base 2 C "need_place" (spNeedPl C CL) []) (m_worths_in : Met P w K mg base 6 C "worths_in" (spWin C CL) []) (M : MAt K C "at" "Rows.at" s_Rows_at ["self", "make", "place"]) : MetX P w K mg base 7 C "at" (spAtK K CN C CL) := by
  refine M.metX OC.cl sc_Rows_at (fun vs H Q E h => ?_) (fun f cdv A outer s H vs Q E hr h => ?_)
  · obtain ⟨N, o, n, ow, pc, ks, st, fs, v, u, d, rfl, _⟩ := h
    rfl
  · obtain ⟨N, o, n, ow, pc, ks, st, fs, v, u, d, rfl, r, rest⟩ := h
    obtain ⟨dx, e1, nl⟩ := r.ins
    refine ⟨_, (pss_cons (ps_expr (pe_mtX x_need hr (by decide) (takes_of rfl rfl rfl rfl) (pv 0) (pa_cons (pv 1) pa_nil)))
      (pss_cons (ps_expr (pe_mt m_need_place hr (by decide) (pv 0) (pa_cons (pv 2) pa_nil)))
      (pss_one (ps_ret (pe_ix ix_list (pe_mt m_worths_in hr (by decide) (pv 0) (pa_cons (pv 1) (pa_cons (pv 2) (pa_cons (pe_op op_add (pv 2) pe_int) pa_nil)))) pe_int (fun _ _ => rfl)))))), ?_⟩
    exact ⟨_, rfl, o, dx, fs, rfl, e1, nl _ (by decide), _, rfl, N, o, n, ow, pc, ks, st, fs, v, d, rfl, r, rest⟩
theorem ok_atP (T : Txt K mg) (R : RfT P K mg CA fA CN fN CP fP CS fS CW fW CG fG CM fM CE) (OC : RowC K C) (m_need_make : Met P w K mg base 2 C "need_make" (spNeedMk C CL) []) (x_place : MetX P w K mg base 2 C "need_place" (spNp K CP C CL)) (m_worths_in : Met P w K mg base 6 C "worths_in" (spWin C CL) []) (M : MAt K C "at" "Rows.at" s_Rows_at ["self", "make", "place"]) : MetX P w K mg base 7 C "at" (spAtP K CP C CL) := by
  refine M.metX OC.cl sc_Rows_at (fun vs H Q E h => ?_) (fun f cdv A outer s H vs Q E hr h => ?_)
  · obtain ⟨N, o, n, ow, pc, ks, st, fs, i, v, d, rfl, _⟩ := h
    rfl
  · obtain ⟨N, o, n, ow, pc, ks, st, fs, i, v, d, rfl, r, rest⟩ := h
    obtain ⟨dx, e1, nl⟩ := r.ins
    obtain ⟨hi, hk, rest⟩ := rest
    refine ⟨_, (pss_cons (ps_expr (pe_mt m_need_make hr (by decide) (pv 0) (pa_cons (pv 1) pa_nil)))
      (pss_cons (ps_expr (pe_mtX x_place hr (by decide) (takes_of rfl rfl rfl rfl) (pv 0) (pa_cons (pv 2) pa_nil)))
      (pss_one (ps_ret (pe_ix ix_list (pe_mt m_worths_in hr (by decide) (pv 0) (pa_cons (pv 1) (pa_cons (pv 2) (pa_cons (pe_op op_add (pv 2) pe_int) pa_nil)))) pe_int (fun _ _ => rfl)))))), ?_⟩
    exact ⟨_, rfl, o, dx, fs, rfl, e1, nl _ (by decide), _, rfl, N, o, n, ow, pc, ks, st, fs, i, rfl, r, hi, hk, _, rfl, o, dx, fs, rfl, e1, nl _ (by decide), _, rfl, N, o, n, ow, pc, ks, st, fs, v, d, rfl, r, rest⟩
theorem ok_rowK (T : Txt K mg) (R : RfT P K mg CA fA CN fN CP fP CS fS CW fW CG fG CM fM CE) (OC : RowC K C) (x_need : MetX P w K mg base 2 C "need_make" (spNk K CN C CL)) (m_size : Met P w K mg base 1 C "size" (spSize C CL) []) (m_worths_in : Met P w K mg base 6 C "worths_in" (spWin C CL) []) (M : MAt K C "row" "Rows.row" s_Rows_row ["self", "make"]) : MetX P w K mg base 7 C "row" (spNk K CN C CL) := by
  refine M.metX OC.cl sc_Rows_row (fun vs H Q E h => ?_) (fun f cdv A outer s H vs Q E hr h => ?_)
  · obtain ⟨N, o, n, ow, pc, ks, st, fs, v, d, rfl, _⟩ := h
    rfl
  · obtain ⟨N, o, n, ow, pc, ks, st, fs, v, d, rfl, r, rest⟩ := h
    obtain ⟨dx, e1, nl⟩ := r.ins
    refine ⟨_, (pss_cons (ps_expr (pe_mtX x_need hr (by decide) (takes_of rfl rfl rfl rfl) (pv 0) (pa_cons (pv 1) pa_nil)))
      (pss_one (ps_ret (pe_callTy call_list_of (by rfl) T.t_list boot_list_ (pa_cons (pe_mt m_worths_in hr (by decide) (pv 0) (pa_cons (pv 1) (pa_cons pe_int (pa_cons (pe_mt0 m_size hr (by decide) (pv 0)) pa_nil)))) pa_nil))))), ?_⟩
    exact ⟨_, rfl, o, dx, fs, rfl, e1, nl _ (by decide), _, rfl, N, o, n, ow, pc, ks, st, fs, v, d, rfl, r, rest⟩
theorem ok_stK (T : Txt K mg) (R : RfT P K mg CA fA CN fN CP fP CS fS CW fW CG fG CM fM CE) (OC : RowC K C) (x_need : MetX P w K mg base 2 C "need_make" (spNk K CN C CL)) (m_need_stretch : Met P w K mg base 2 C "need_stretch" (spNeedSt C CL) []) (m_worths_in : Met P w K mg base 6 C "worths_in" (spWin C CL) []) (M : MAt K C "stretch" "Rows.stretch" s_Rows_stretch ["self", "make", "low", "high"]) : MetX P w K mg base 7 C "stretch" (spStK K CN C CL) := by
  refine M.metX OC.cl sc_Rows_stretch (fun vs H Q E h => ?_) (fun f cdv A outer s H vs Q E hr h => ?_)
  · obtain ⟨N, o, n, ow, pc, ks, st, fs, v, u, u2, d, rfl, _⟩ := h
    rfl
  · obtain ⟨N, o, n, ow, pc, ks, st, fs, v, u, u2, d, rfl, r, rest⟩ := h
    obtain ⟨dx, e1, nl⟩ := r.ins
    refine ⟨_, (pss_cons (ps_expr (pe_mtX x_need hr (by decide) (takes_of rfl rfl rfl rfl) (pv 0) (pa_cons (pv 1) pa_nil)))
      (pss_cons (ps_expr (pe_mt m_need_stretch hr (by decide) (pv 0) (pa_cons (pv 2) (pa_cons (pv 3) pa_nil))))
      (pss_one (ps_ret (pe_callTy call_list_of (by rfl) T.t_list boot_list_ (pa_cons (pe_mt m_worths_in hr (by decide) (pv 0) (pa_cons (pv 1) (pa_cons (pv 2) (pa_cons (pv 3) pa_nil)))) pa_nil)))))), ?_⟩
    exact ⟨_, rfl, o, dx, fs, rfl, e1, nl _ (by decide), _, rfl, N, o, n, ow, pc, ks, st, fs, v, d, rfl, r, rest⟩
theorem ok_stS (T : Txt K mg) (R : RfT P K mg CA fA CN fN CP fP CS fS CW fW CG fG CM fM CE) (OC : RowC K C) (m_need_make : Met P w K mg base 2 C "need_make" (spNeedMk C CL) []) (x_stretch : MetX P w K mg base 2 C "need_stretch" (spNs K CS C CL)) (m_worths_in : Met P w K mg base 6 C "worths_in" (spWin C CL) []) (M : MAt K C "stretch" "Rows.stretch" s_Rows_stretch ["self", "make", "low", "high"]) : MetX P w K mg base 7 C "stretch" (spStS K CS C CL) := by
  refine M.metX OC.cl sc_Rows_stretch (fun vs H Q E h => ?_) (fun f cdv A outer s H vs Q E hr h => ?_)
  · obtain ⟨N, o, n, ow, pc, ks, st, fs, i, v, v2, d, d2, rfl, _⟩ := h
    rfl
  · obtain ⟨N, o, n, ow, pc, ks, st, fs, i, v, v2, d, d2, rfl, r, rest⟩ := h
    obtain ⟨dx, e1, nl⟩ := r.ins
    obtain ⟨hi, hk, rest⟩ := rest
    refine ⟨_, (pss_cons (ps_expr (pe_mt m_need_make hr (by decide) (pv 0) (pa_cons (pv 1) pa_nil)))
      (pss_cons (ps_expr (pe_mtX x_stretch hr (by decide) (takes_of rfl rfl rfl rfl) (pv 0) (pa_cons (pv 2) (pa_cons (pv 3) pa_nil))))
      (pss_one (ps_ret (pe_callTy call_list_of (by rfl) T.t_list boot_list_ (pa_cons (pe_mt m_worths_in hr (by decide) (pv 0) (pa_cons (pv 1) (pa_cons (pv 2) (pa_cons (pv 3) pa_nil)))) pa_nil)))))), ?_⟩
    exact ⟨_, rfl, o, dx, fs, rfl, e1, nl _ (by decide), _, rfl, N, o, n, ow, pc, ks, st, fs, i, rfl, r, hi, hk, _, rfl, o, dx, fs, rfl, e1, nl _ (by decide), _, rfl, _, rfl, N, o, n, ow, pc, ks, st, fs, v, v2, d, d2, rfl, r, rest⟩
theorem ok_wrK (T : Txt K mg) (R : RfT P K mg CA fA CN fN CP fP CS fS CW fW CG fG CM fM CE) (OC : RowC K C) (x_there : MetX P w K mg base 2 C "_row_need_there" (spNt K CN C CL)) (m_need_place : Met P w K mg base 2 C "need_place" (spNeedPl C CL) []) (m__up_to_writer : Met P w K mg base 4 C "_up_to_writer" (spUpw C CL) []) (M : MAt K C "writer" "Rows.writer" s_Rows_writer ["self", "make", "place"]) : MetX P w K mg base 5 C "writer" (spWrK K CN C CL) := by
  refine M.metX OC.cl sc_Rows_writer (fun vs H Q E h => ?_) (fun f cdv A outer s H vs Q E hr h => ?_)
  · obtain ⟨N, o, n, ow, pc, ks, st, fs, v, u, d, rfl, _⟩ := h
    rfl
  · obtain ⟨N, o, n, ow, pc, ks, st, fs, v, u, d, rfl, r, rest⟩ := h
    obtain ⟨dx, e1, nl⟩ := r.ins
    refine ⟨_, (pss_cons (ps_expr (pe_mtX x_there hr (by decide) (takes_of rfl rfl rfl rfl) (pv 0) (pa_cons (pv 1) pa_nil)))
      (pss_cons (ps_expr (pe_mt m_need_place hr (by decide) (pv 0) (pa_cons (pv 2) pa_nil)))
      (pss_one (ps_ret (pe_ix ix_list (pe_mt m__up_to_writer hr (by decide) (pv 0) (pa_cons (pv 1) (pa_cons (pv 2) pa_nil))) (pe_un un_neg pe_int) (fun _ _ => rfl)))))), ?_⟩
    exact ⟨_, rfl, o, dx, fs, rfl, e1, nl _ (by decide), _, rfl, N, o, n, ow, pc, ks, st, fs, v, d, rfl, r, rest⟩
theorem ok_wrP (T : Txt K mg) (R : RfT P K mg CA fA CN fN CP fP CS fS CW fW CG fG CM fM CE) (OC : RowC K C) (m__row_need_there : Met P w K mg base 2 C "_row_need_there" (spThere C CL) []) (x_place : MetX P w K mg base 2 C "need_place" (spNp K CP C CL)) (m__up_to_writer : Met P w K mg base 4 C "_up_to_writer" (spUpw C CL) []) (M : MAt K C "writer" "Rows.writer" s_Rows_writer ["self", "make", "place"]) : MetX P w K mg base 5 C "writer" (spWrP K CP C CL) := by
  refine M.metX OC.cl sc_Rows_writer (fun vs H Q E h => ?_) (fun f cdv A outer s H vs Q E hr h => ?_)
  · obtain ⟨N, o, n, ow, pc, ks, st, fs, i, v, d, rfl, _⟩ := h
    rfl
  · obtain ⟨N, o, n, ow, pc, ks, st, fs, i, v, d, rfl, r, rest⟩ := h
    obtain ⟨dx, e1, nl⟩ := r.ins
    obtain ⟨hi, rest⟩ := rest
    refine ⟨_, (pss_cons (ps_expr (pe_mt m__row_need_there hr (by decide) (pv 0) (pa_cons (pv 1) pa_nil)))
      (pss_cons (ps_expr (pe_mtX x_place hr (by decide) (takes_of rfl rfl rfl rfl) (pv 0) (pa_cons (pv 2) pa_nil)))
      (pss_one (ps_ret (pe_ix ix_list (pe_mt m__up_to_writer hr (by decide) (pv 0) (pa_cons (pv 1) (pa_cons (pv 2) pa_nil))) (pe_un un_neg pe_int) (fun _ _ => rfl)))))), ?_⟩
    exact ⟨_, rfl, o, dx, fs, rfl, e1, nl _ (by decide), _, rfl, N, o, n, ow, pc, ks, st, fs, i, rfl, r, hi, _, rfl, o, dx, fs, rfl, e1, nl _ (by decide), _, rfl, N, o, n, ow, pc, ks, st, fs, v, d, rfl, r, rest⟩
theorem ok_poK (T : Txt K mg) (R : RfT P K mg CA fA CN fN CP fP CS fS CW fW CG fG CM fM CE) (OC : RowC K C) (x_there : MetX P w K mg base 2 C "_row_need_there" (spNt K CN C CL)) (M : MAt K C "place_of" "Rows.place_of" s_Rows_place_of ["self", "make"]) : MetX P w K mg base 3 C "place_of" (spNt K CN C CL) := by
  refine M.metX OC.cl sc_Rows_place_of (fun vs H Q E h => ?_) (fun f cdv A outer s H vs Q E hr h => ?_)
  · obtain ⟨N, o, n, ow, pc, ks, st, fs, v, d, rfl, _⟩ := h
    rfl
  · obtain ⟨N, o, n, ow, pc, ks, st, fs, v, d, rfl, r, rest⟩ := h
    obtain ⟨dx, e1, nl⟩ := r.ins
    refine ⟨_, (pss_cons (ps_expr (pe_mtX x_there hr (by decide) (takes_of rfl rfl rfl rfl) (pv 0) (pa_cons (pv 1) pa_nil)))
      (pss_one (ps_ret (pe_ix ix_list (pe_fld (pv 0) rfl) (pv 1) (fun _ _ => rfl))))), ?_⟩
    exact ⟨_, rfl, o, dx, fs, rfl, e1, nl _ (by decide), _, rfl, N, o, n, ow, pc, ks, st, fs, v, d, rfl, r, rest⟩
theorem fn_goK {f : Addr} {fd : FuncData} (T : Txt K mg) (R : RfT P K mg CA fA CN fN CP fP CS fS CW fW CG fG CM fM CE) (OC : RowC K C) (x_need : MetX P w K mg base 2 C "need_make" (spNk K CN C CL)) (m_freed : Met P w K mg base 6 C "freed" (spFreed C CL) []) (F : Fun K "let_go" "Rows.let_go" s_Rows_let_go f fd) : FnOk P w K mg base (L2.CX P w) 7 f fd ["self", "make"] (spNk K CN C CL) := by
  refine F.okX sc_Rows_let_go (fun vs H Q E h => ?_) (fun cdv A outer s H vs Q E hr h => ?_)
  · obtain ⟨N, o, n, ow, pc, ks, st, fs, v, d, rfl, _⟩ := h
    rfl
  · obtain ⟨N, o, n, ow, pc, ks, st, fs, v, d, rfl, r, rest⟩ := h
    obtain ⟨dx, e1, nl⟩ := r.ins
    refine ⟨_, (pss_cons (ps_expr (pe_mtX x_need hr (by decide) (takes_of rfl rfl rfl rfl) (pv 0) (pa_cons (pv 1) pa_nil)))
      (pss_cons (ps_if (pt_cmpR op_eq (pe_callB call_len (by rfl) T.b_len boot_len_ (pa_cons (pe_fld (pv 0) rfl) pa_nil)) pe_int (nomark _))
          (pss_one ps_never) pss_nil)
      (pss_cons (ps_expr (pe_bm PySem.F.plainAttrs_list PySem.F.slot_list_remove PySem.F.type_list_remove mt_remove (pe_fld (pv 0) rfl) (pa_cons (pv 1) pa_nil)))
      (pss_one (ps_ret (pe_callTy call_list_of (by rfl) T.t_list boot_list_ (pa_cons (pe_mt m_freed hr (by decide) (pv 0) (pa_cons (pv 1) pa_nil)) pa_nil))))))), ?_⟩
    exact ⟨_, rfl, o, dx, fs, rfl, e1, nl _ (by decide), _, rfl, N, o, n, ow, pc, ks, st, fs, v, d, rfl, r, rest⟩

theorem ok_goK {g : Addr} {fd : FuncData} (OC : RowC K C) (F : FnOk P w K mg base (L2.CX P w) 7 g fd ["self", "make"] (spNk K CN C CL)) (hb : Binds K fd ["self", "make"] []) (S : SAt P K C "let_go" "Lined.let_go" s_Lined_let_go ["self", "make"] g) : MetX P w K mg base 8 C "let_go" (spNk K CN C CL) := by
  obtain ⟨f, cc, c, oc, od, doc, pm, an, ct, osl, sup, lk, me, bi⟩ := S.ex
  refine ⟨f, _, _, OC.cl, me, ?_, bi⟩
  refine okS_ret sup lk ns_go rfl (fun vs H Q E h => ?_) rfl F hb (by rfl) (fun L => by rfl) (fun L => by rfl) (fun L => by rfl) ?_
  · obtain ⟨N, o, n, ow, pc, ks, st, fs, v, d, rfl, _⟩ := h
    rfl
  · rintro A outer s H vs Q E hr ⟨N, o, n, ow, pc, ks, st, fs, v, d, rfl, r, rest⟩
    obtain ⟨dx, e1, nl⟩ := r.ins
    exact ⟨o, dx, fs, E, _, rfl, e1, passes_call (takes_of rfl rfl rfl rfl) (fun _ _ _ _ h => h), (pa_cons (pv 1) pa_nil), _, rfl, N, o, n, ow, pc, ks, st, fs, v, d, rfl, r, rest⟩

end
end K41
namespace K41
open PySem PySem.Spec PyProof.Rows L2 Gd Gs Gx Ge
open C8 (clsBody Met pe_mt pe_mt0)
section
variable {P : Program} {w : World} {K : PySem.W.Frag} {mg : Str → Option Value} {base : Heap} {C CL CA fA CN fN CP fP CS fS CW fW CG fG CM fM CE : Addr}
def Ask0K (K : PySem.W.Frag) (H : Hp) (CX : Addr) (n : Nat) (ow ks : List Nat) (way : Nat) (things : List V) (C : Addr) (fs : List (Str × V)) (vals : List V) : Prop := ∃ (v u u2 : V) (d : PyData), way = 0 ∧ things = [v, u, u2] ∧ (∀ H', Same H H' → D1 K H' v d) ∧ NoK ow ks d ∧ CX = C ∧ fs = [(("found" : Str), v)] ∧ vals = [.str "make", v]
def Ask0P (K : PySem.W.Frag) (H : Hp) (CX : Addr) (n : Nat) (ow ks : List Nat) (way : Nat) (things : List V) (C : Addr) (fs : List (Str × V)) (vals : List V) : Prop := ∃ (i : Nat) (v : V) (d : PyData), way = 0 ∧ things = [num i, v] ∧ i ≤ ow.length ∧ i ∈ ks ∧ (∀ H', Same H H' → D1 K H' v d) ∧ wholeD d 0 ((n : Nat) - 1 : Int) = false ∧ CX = C ∧ fs = [(("found" : Str), v)] ∧ vals = [.str "place", v]
def Ask1K (K : PySem.W.Frag) (H : Hp) (CX : Addr) (n : Nat) (ow ks : List Nat) (way : Nat) (things : List V) (C : Addr) (fs : List (Str × V)) (vals : List V) : Prop := ∃ (v u u2 : V) (d : PyData), way = 1 ∧ things = [v, u, u2] ∧ (∀ H', Same H H' → D1 K H' v d) ∧ NoK ow ks d ∧ CX = C ∧ fs = [(("found" : Str), v)] ∧ vals = [.str "make", v]
def Ask2K (K : PySem.W.Frag) (H : Hp) (CX : Addr) (n : Nat) (ow ks : List Nat) (way : Nat) (things : List V) (C : Addr) (fs : List (Str × V)) (vals : List V) : Prop := ∃ (v u u2 : V) (d : PyData), way = 2 ∧ things = [v, u, u2] ∧ (∀ H', Same H H' → D1 K H' v d) ∧ NoK ow ks d ∧ CX = C ∧ fs = [(("found" : Str), v)] ∧ vals = [.str "make", v]
def Ask2S (K : PySem.W.Frag) (H : Hp) (CX : Addr) (n : Nat) (ow ks : List Nat) (way : Nat) (things : List V) (C : Addr) (fs : List (Str × V)) (vals : List V) : Prop := ∃ (i : Nat) (v v2 : V) (d d2 : PyData), way = 2 ∧ things = [num i, v, v2] ∧ i ≤ ow.length ∧ i ∈ ks ∧ (∀ H', Same H H' → D1 K H' v d) ∧ (∀ H', Same H H' → D1 K H' v2 d2) ∧ NoS n d d2 ∧ CX = C ∧ fs = [(("low" : Str), v), (("high" : Str), v2)] ∧ vals = [.str "stretch", v, v2]
def Ask3K (K : PySem.W.Frag) (H : Hp) (CX : Addr) (n : Nat) (ow ks : List Nat) (way : Nat) (things : List V) (C : Addr) (fs : List (Str × V)) (vals : List V) : Prop := ∃ (v u u2 : V) (d : PyData), way = 3 ∧ things = [v, u, u2] ∧ (∀ H', Same H H' → D1 K H' v d) ∧ NoK ow ks d ∧ CX = C ∧ fs = [(("found" : Str), v)] ∧ vals = [.str "make", v]
def Ask4K (K : PySem.W.Frag) (H : Hp) (CX : Addr) (n : Nat) (ow ks : List Nat) (way : Nat) (things : List V) (C : Addr) (fs : List (Str × V)) (vals : List V) : Prop := ∃ (v u u2 : V) (d : PyData), way = 4 ∧ things = [v, u, u2] ∧ (∀ H', Same H H' → D1 K H' v d) ∧ wholeD d 0 (ow.length : Nat) = false ∧ CX = C ∧ fs = [(("found" : Str), v)] ∧ vals = [.str "make", v]
def Ask4P (K : PySem.W.Frag) (H : Hp) (CX : Addr) (n : Nat) (ow ks : List Nat) (way : Nat) (things : List V) (C : Addr) (fs : List (Str × V)) (vals : List V) : Prop := ∃ (i : Nat) (v : V) (d : PyData), way = 4 ∧ things = [num i, v] ∧ i ≤ ow.length ∧ (∀ H', Same H H' → D1 K H' v d) ∧ wholeD d 0 ((n : Nat) - 1 : Int) = false ∧ CX = C ∧ fs = [(("found" : Str), v)] ∧ vals = [.str "place", v]
def Ask5K (K : PySem.W.Frag) (H : Hp) (CX : Addr) (n : Nat) (ow ks : List Nat) (way : Nat) (things : List V) (C : Addr) (fs : List (Str × V)) (vals : List V) : Prop := ∃ (v u u2 : V) (d : PyData), way = 5 ∧ things = [v, u, u2] ∧ (∀ H', Same H H' → D1 K H' v d) ∧ wholeD d 0 (ow.length : Nat) = false ∧ CX = C ∧ fs = [(("found" : Str), v)] ∧ vals = [.str "make", v]
def AskB (K : PySem.W.Frag) (H : Hp) (CN CP CS : Addr) (n : Nat) (ow ks : List Nat) (way : Nat) (things : List V) (C : Addr) (fs : List (Str × V)) (vals : List V) : Prop :=
  Ask0K K H CN n ow ks way things C fs vals ∨ Ask0P K H CP n ow ks way things C fs vals ∨ Ask1K K H CN n ow ks way things C fs vals ∨ Ask2K K H CN n ow ks way things C fs vals ∨ Ask2S K H CS n ow ks way things C fs vals ∨ Ask3K K H CN n ow ks way things C fs vals ∨ Ask4K K H CN n ow ks way things C fs vals ∨ Ask4P K H CP n ow ks way things C fs vals ∨ Ask5K K H CN n ow ks way things C fs vals
def spAsk (K : PySem.W.Frag) (CN CP CS C CL : Addr) : Sp := fun vs H Q E => ∃ (N : Addr → Prop) (o t : Addr) (n : Nat) (ow pc ks : List Nat) (st : Int) (fs : List (Str × V)) (way : Nat) (things : List V) (CX : Addr) (xf : List (Str × V)) (vals : List V), vs = [.ref o, num way, .ref t] ∧ RowB N H o C CL n ow pc ks st fs ∧ H t = some (.lst things) ∧ AskB K H CN CP CS n ow ks way things CX xf vals ∧ ∀ a, H a = none → E (.ref CX) (some a) (upd H a (.xd xf))
theorem ok_ask (T : Txt K mg) (x_atK : MetX P w K mg base 7 C "at" (spAtK K CN C CL)) (x_atP : MetX P w K mg base 7 C "at" (spAtP K CP C CL)) (x_rowK : MetX P w K mg base 7 C "row" (spNk K CN C CL)) (x_stK : MetX P w K mg base 7 C "stretch" (spStK K CN C CL)) (x_stS : MetX P w K mg base 7 C "stretch" (spStS K CS C CL)) (x_goK : MetX P w K mg base 8 C "let_go" (spNk K CN C CL)) (x_wrK : MetX P w K mg base 5 C "writer" (spWrK K CN C CL)) (x_wrP : MetX P w K mg base 5 C "writer" (spWrP K CP C CL)) (x_poK : MetX P w K mg base 3 C "place_of" (spNt K CN C CL)) (D : DefAt K mg "_law_ask" s__law_ask ["_law_rows", "_law_way", "_law_things"]) : CalX P w K mg base 9 "_law_ask" (spAsk K CN CP CS C CL) := by
  refine D.calX sc__law_ask (fun vs H Q E h => ?_) (fun f cdv A outer s H vs Q E hG hr h => ?_)
  · obtain ⟨N, o, t, n, ow, pc, ks, st, fs, way, things, CX, xf, vals, rfl, _⟩ := h
    rfl
  · obtain ⟨N, o, t, n, ow, pc, ks, st, fs, way, things, CX, xf, vals, rfl, r, et, ab, q⟩ := h
    obtain ⟨dx, e1, nl⟩ := r.ins
    have s0 : Same H H := fun _ _ z => z
    rcases ab with h | h | h | h | h | h | h | h | h
    · obtain ⟨v, u, u2, d, rfl, rfl, hd, bad, rfl, rfl, rfl⟩ := h
      refine ⟨_, (pss_one (ps_if (pt_cmpR op_eq (pv 1) pe_int (nomark _)) (pss_one (ps_expr (pe_mtX x_atK hr (by decide) (takes_of rfl rfl rfl rfl) (pv 0) (pa_cons (pe_ix ix_list (pv 2) pe_int (fun _ _ => rfl)) (pa_cons (pe_ix ix_list (pv 2) pe_int (fun _ _ => rfl)) pa_nil))))) (pss_one (ps_if (pt_cmpR op_eq (pv 1) pe_int (nomark _)) (pss_one ps_never) (pss_one (ps_if (pt_cmpR op_eq (pv 1) pe_int (nomark _)) (pss_one ps_never) (pss_one (ps_if (pt_cmpR op_eq (pv 1) pe_int (nomark _)) (pss_one ps_never) (pss_one (ps_if (pt_cmpR op_eq (pv 1) pe_int (nomark _)) (pss_one ps_never) (pss_one ps_never))))))))))), ?_⟩
      refine ⟨_, rfl, rfl, _, rfl, ?_⟩
      rw [decide_eq_true (show num 0 = V.int 0 from rfl)]
      refine iteT ?_
      exact ⟨_, rfl, o, dx, fs, rfl, e1, nl _ (by decide), _, rfl, t, _, _, v, rfl, rfl, SqL.of et, rfl, _, rfl, t, _, _, u, rfl, rfl, SqL.of et, rfl, N, o, n, ow, pc, ks, st, fs, v, u, d, rfl, r, hd _ s0, bad, q⟩
    · obtain ⟨i, v, d, rfl, rfl, hi, hk, hd, bad, rfl, rfl, rfl⟩ := h
      refine ⟨_, (pss_one (ps_if (pt_cmpR op_eq (pv 1) pe_int (nomark _)) (pss_one (ps_expr (pe_mtX x_atP hr (by decide) (takes_of rfl rfl rfl rfl) (pv 0) (pa_cons (pe_ix ix_list (pv 2) pe_int (fun _ _ => rfl)) (pa_cons (pe_ix ix_list (pv 2) pe_int (fun _ _ => rfl)) pa_nil))))) (pss_one (ps_if (pt_cmpR op_eq (pv 1) pe_int (nomark _)) (pss_one ps_never) (pss_one (ps_if (pt_cmpR op_eq (pv 1) pe_int (nomark _)) (pss_one ps_never) (pss_one (ps_if (pt_cmpR op_eq (pv 1) pe_int (nomark _)) (pss_one ps_never) (pss_one (ps_if (pt_cmpR op_eq (pv 1) pe_int (nomark _)) (pss_one ps_never) (pss_one ps_never))))))))))), ?_⟩
      refine ⟨_, rfl, rfl, _, rfl, ?_⟩
      rw [decide_eq_true (show num 0 = V.int 0 from rfl)]
      refine iteT ?_
      exact ⟨_, rfl, o, dx, fs, rfl, e1, nl _ (by decide), _, rfl, t, _, _, num i, rfl, rfl, SqL.of et, rfl, _, rfl, t, _, _, v, rfl, rfl, SqL.of et, rfl, N, o, n, ow, pc, ks, st, fs, i, v, d, rfl, r, hi, hk, hd _ s0, bad, q⟩
    · obtain ⟨v, u, u2, d, rfl, rfl, hd, bad, rfl, rfl, rfl⟩ := h
      refine ⟨_, (pss_one (ps_if (pt_cmpR op_eq (pv 1) pe_int (nomark _)) (pss_one ps_never) (pss_one (ps_if (pt_cmpR op_eq (pv 1) pe_int (nomark _)) (pss_one (ps_expr (pe_mtX x_rowK hr (by decide) (takes_of rfl rfl rfl rfl) (pv 0) (pa_cons (pe_ix ix_list (pv 2) pe_int (fun _ _ => rfl)) pa_nil)))) (pss_one (ps_if (pt_cmpR op_eq (pv 1) pe_int (nomark _)) (pss_one ps_never) (pss_one (ps_if (pt_cmpR op_eq (pv 1) pe_int (nomark _)) (pss_one ps_never) (pss_one (ps_if (pt_cmpR op_eq (pv 1) pe_int (nomark _)) (pss_one ps_never) (pss_one ps_never))))))))))), ?_⟩
      refine ⟨_, rfl, rfl, _, rfl, ?_⟩
      rw [decide_eq_false (show ¬ num 1 = V.int 0 from fun z => by cases z)]
      refine iteF ?_
      refine ⟨_, rfl, rfl, _, rfl, ?_⟩
      rw [decide_eq_true (show num 1 = V.int 1 from rfl)]
      refine iteT ?_
      exact ⟨_, rfl, o, dx, fs, rfl, e1, nl _ (by decide), _, rfl, t, _, _, v, rfl, rfl, SqL.of et, rfl, N, o, n, ow, pc, ks, st, fs, v, d, rfl, r, hd _ s0, bad, q⟩
    · obtain ⟨v, u, u2, d, rfl, rfl, hd, bad, rfl, rfl, rfl⟩ := h
      refine ⟨_, (pss_one (ps_if (pt_cmpR op_eq (pv 1) pe_int (nomark _)) (pss_one ps_never) (pss_one (ps_if (pt_cmpR op_eq (pv 1) pe_int (nomark _)) (pss_one ps_never) (pss_one (ps_if (pt_cmpR op_eq (pv 1) pe_int (nomark _)) (pss_one (ps_expr (pe_mtX x_stK hr (by decide) (takes_of rfl rfl rfl rfl) (pv 0) (pa_cons (pe_ix ix_list (pv 2) pe_int (fun _ _ => rfl)) (pa_cons (pe_ix ix_list (pv 2) pe_int (fun _ _ => rfl)) (pa_cons (pe_ix ix_list (pv 2) pe_int (fun _ _ => rfl)) pa_nil)))))) (pss_one (ps_if (pt_cmpR op_eq (pv 1) pe_int (nomark _)) (pss_one ps_never) (pss_one (ps_if (pt_cmpR op_eq (pv 1) pe_int (nomark _)) (pss_one ps_never) (pss_one ps_never))))))))))), ?_⟩
      refine ⟨_, rfl, rfl, _, rfl, ?_⟩
      rw [decide_eq_false (show ¬ num 2 = V.int 0 from fun z => by cases z)]
      refine iteF ?_
      refine ⟨_, rfl, rfl, _, rfl, ?_⟩
      rw [decide_eq_false (show ¬ num 2 = V.int 1 from fun z => by cases z)]
      refine iteF ?_
      refine ⟨_, rfl, rfl, _, rfl, ?_⟩
      rw [decide_eq_true (show num 2 = V.int 2 from rfl)]
      refine iteT ?_
      exact ⟨_, rfl, o, dx, fs, rfl, e1, nl _ (by decide), _, rfl, t, _, _, v, rfl, rfl, SqL.of et, rfl, _, rfl, t, _, _, u, rfl, rfl, SqL.of et, rfl, _, rfl, t, _, _, u2, rfl, rfl, SqL.of et, rfl, N, o, n, ow, pc, ks, st, fs, v, u, u2, d, rfl, r, hd _ s0, bad, q⟩
    · obtain ⟨i, v, v2, d, d2, rfl, rfl, hi, hk, hd, hd2, bad, rfl, rfl, rfl⟩ := h
      refine ⟨_, (pss_one (ps_if (pt_cmpR op_eq (pv 1) pe_int (nomark _)) (pss_one ps_never) (pss_one (ps_if (pt_cmpR op_eq (pv 1) pe_int (nomark _)) (pss_one ps_never) (pss_one (ps_if (pt_cmpR op_eq (pv 1) pe_int (nomark _)) (pss_one (ps_expr (pe_mtX x_stS hr (by decide) (takes_of rfl rfl rfl rfl) (pv 0) (pa_cons (pe_ix ix_list (pv 2) pe_int (fun _ _ => rfl)) (pa_cons (pe_ix ix_list (pv 2) pe_int (fun _ _ => rfl)) (pa_cons (pe_ix ix_list (pv 2) pe_int (fun _ _ => rfl)) pa_nil)))))) (pss_one (ps_if (pt_cmpR op_eq (pv 1) pe_int (nomark _)) (pss_one ps_never) (pss_one (ps_if (pt_cmpR op_eq (pv 1) pe_int (nomark _)) (pss_one ps_never) (pss_one ps_never))))))))))), ?_⟩
      refine ⟨_, rfl, rfl, _, rfl, ?_⟩
      rw [decide_eq_false (show ¬ num 2 = V.int 0 from fun z => by cases z)]
      refine iteF ?_
      refine ⟨_, rfl, rfl, _, rfl, ?_⟩
      rw [decide_eq_false (show ¬ num 2 = V.int 1 from fun z => by cases z)]
      refine iteF ?_
      refine ⟨_, rfl, rfl, _, rfl, ?_⟩
      rw [decide_eq_true (show num 2 = V.int 2 from rfl)]
      refine iteT ?_
      exact ⟨_, rfl, o, dx, fs, rfl, e1, nl _ (by decide), _, rfl, t, _, _, num i, rfl, rfl, SqL.of et, rfl, _, rfl, t, _, _, v, rfl, rfl, SqL.of et, rfl, _, rfl, t, _, _, v2, rfl, rfl, SqL.of et, rfl, N, o, n, ow, pc, ks, st, fs, i, v, v2, d, d2, rfl, r, hi, hk, hd _ s0, hd2 _ s0, bad, q⟩
    · obtain ⟨v, u, u2, d, rfl, rfl, hd, bad, rfl, rfl, rfl⟩ := h
      refine ⟨_, (pss_one (ps_if (pt_cmpR op_eq (pv 1) pe_int (nomark _)) (pss_one ps_never) (pss_one (ps_if (pt_cmpR op_eq (pv 1) pe_int (nomark _)) (pss_one ps_never) (pss_one (ps_if (pt_cmpR op_eq (pv 1) pe_int (nomark _)) (pss_one ps_never) (pss_one (ps_if (pt_cmpR op_eq (pv 1) pe_int (nomark _)) (pss_one (ps_expr (pe_mtX x_goK hr (by decide) (takes_of rfl rfl rfl rfl) (pv 0) (pa_cons (pe_ix ix_list (pv 2) pe_int (fun _ _ => rfl)) pa_nil)))) (pss_one (ps_if (pt_cmpR op_eq (pv 1) pe_int (nomark _)) (pss_one ps_never) (pss_one ps_never))))))))))), ?_⟩
      refine ⟨_, rfl, rfl, _, rfl, ?_⟩
      rw [decide_eq_false (show ¬ num 3 = V.int 0 from fun z => by cases z)]
      refine iteF ?_
      refine ⟨_, rfl, rfl, _, rfl, ?_⟩
      rw [decide_eq_false (show ¬ num 3 = V.int 1 from fun z => by cases z)]
      refine iteF ?_
      refine ⟨_, rfl, rfl, _, rfl, ?_⟩
      rw [decide_eq_false (show ¬ num 3 = V.int 2 from fun z => by cases z)]
      refine iteF ?_
      refine ⟨_, rfl, rfl, _, rfl, ?_⟩
      rw [decide_eq_true (show num 3 = V.int 3 from rfl)]
      refine iteT ?_
      exact ⟨_, rfl, o, dx, fs, rfl, e1, nl _ (by decide), _, rfl, t, _, _, v, rfl, rfl, SqL.of et, rfl, N, o, n, ow, pc, ks, st, fs, v, d, rfl, r, hd _ s0, bad, q⟩
    · obtain ⟨v, u, u2, d, rfl, rfl, hd, bad, rfl, rfl, rfl⟩ := h
      refine ⟨_, (pss_one (ps_if (pt_cmpR op_eq (pv 1) pe_int (nomark _)) (pss_one ps_never) (pss_one (ps_if (pt_cmpR op_eq (pv 1) pe_int (nomark _)) (pss_one ps_never) (pss_one (ps_if (pt_cmpR op_eq (pv 1) pe_int (nomark _)) (pss_one ps_never) (pss_one (ps_if (pt_cmpR op_eq (pv 1) pe_int (nomark _)) (pss_one ps_never) (pss_one (ps_if (pt_cmpR op_eq (pv 1) pe_int (nomark _)) (pss_one (ps_expr (pe_mtX x_wrK hr (by decide) (takes_of rfl rfl rfl rfl) (pv 0) (pa_cons (pe_ix ix_list (pv 2) pe_int (fun _ _ => rfl)) (pa_cons (pe_ix ix_list (pv 2) pe_int (fun _ _ => rfl)) pa_nil))))) (pss_one ps_never))))))))))), ?_⟩
      refine ⟨_, rfl, rfl, _, rfl, ?_⟩
      rw [decide_eq_false (show ¬ num 4 = V.int 0 from fun z => by cases z)]
      refine iteF ?_
      refine ⟨_, rfl, rfl, _, rfl, ?_⟩
      rw [decide_eq_false (show ¬ num 4 = V.int 1 from fun z => by cases z)]
      refine iteF ?_
      refine ⟨_, rfl, rfl, _, rfl, ?_⟩
      rw [decide_eq_false (show ¬ num 4 = V.int 2 from fun z => by cases z)]
      refine iteF ?_
      refine ⟨_, rfl, rfl, _, rfl, ?_⟩
      rw [decide_eq_false (show ¬ num 4 = V.int 3 from fun z => by cases z)]
      refine iteF ?_
      refine ⟨_, rfl, rfl, _, rfl, ?_⟩
      rw [decide_eq_true (show num 4 = V.int 4 from rfl)]
      refine iteT ?_
      exact ⟨_, rfl, o, dx, fs, rfl, e1, nl _ (by decide), _, rfl, t, _, _, v, rfl, rfl, SqL.of et, rfl, _, rfl, t, _, _, u, rfl, rfl, SqL.of et, rfl, N, o, n, ow, pc, ks, st, fs, v, u, d, rfl, r, hd _ s0, bad, q⟩
    · obtain ⟨i, v, d, rfl, rfl, hi, hd, bad, rfl, rfl, rfl⟩ := h
      refine ⟨_, (pss_one (ps_if (pt_cmpR op_eq (pv 1) pe_int (nomark _)) (pss_one ps_never) (pss_one (ps_if (pt_cmpR op_eq (pv 1) pe_int (nomark _)) (pss_one ps_never) (pss_one (ps_if (pt_cmpR op_eq (pv 1) pe_int (nomark _)) (pss_one ps_never) (pss_one (ps_if (pt_cmpR op_eq (pv 1) pe_int (nomark _)) (pss_one ps_never) (pss_one (ps_if (pt_cmpR op_eq (pv 1) pe_int (nomark _)) (pss_one (ps_expr (pe_mtX x_wrP hr (by decide) (takes_of rfl rfl rfl rfl) (pv 0) (pa_cons (pe_ix ix_list (pv 2) pe_int (fun _ _ => rfl)) (pa_cons (pe_ix ix_list (pv 2) pe_int (fun _ _ => rfl)) pa_nil))))) (pss_one ps_never))))))))))), ?_⟩
      refine ⟨_, rfl, rfl, _, rfl, ?_⟩
      rw [decide_eq_false (show ¬ num 4 = V.int 0 from fun z => by cases z)]
      refine iteF ?_
      refine ⟨_, rfl, rfl, _, rfl, ?_⟩
      rw [decide_eq_false (show ¬ num 4 = V.int 1 from fun z => by cases z)]
      refine iteF ?_
      refine ⟨_, rfl, rfl, _, rfl, ?_⟩
      rw [decide_eq_false (show ¬ num 4 = V.int 2 from fun z => by cases z)]
      refine iteF ?_
      refine ⟨_, rfl, rfl, _, rfl, ?_⟩
      rw [decide_eq_false (show ¬ num 4 = V.int 3 from fun z => by cases z)]
      refine iteF ?_
      refine ⟨_, rfl, rfl, _, rfl, ?_⟩
      rw [decide_eq_true (show num 4 = V.int 4 from rfl)]
      refine iteT ?_
      exact ⟨_, rfl, o, dx, fs, rfl, e1, nl _ (by decide), _, rfl, t, _, _, num i, rfl, rfl, SqL.of et, rfl, _, rfl, t, _, _, v, rfl, rfl, SqL.of et, rfl, N, o, n, ow, pc, ks, st, fs, i, v, d, rfl, r, hi, hd _ s0, bad, q⟩
    · obtain ⟨v, u, u2, d, rfl, rfl, hd, bad, rfl, rfl, rfl⟩ := h
      refine ⟨_, (pss_one (ps_if (pt_cmpR op_eq (pv 1) pe_int (nomark _)) (pss_one ps_never) (pss_one (ps_if (pt_cmpR op_eq (pv 1) pe_int (nomark _)) (pss_one ps_never) (pss_one (ps_if (pt_cmpR op_eq (pv 1) pe_int (nomark _)) (pss_one ps_never) (pss_one (ps_if (pt_cmpR op_eq (pv 1) pe_int (nomark _)) (pss_one ps_never) (pss_one (ps_if (pt_cmpR op_eq (pv 1) pe_int (nomark _)) (pss_one ps_never) (pss_one (ps_expr (pe_mtX x_poK hr (by decide) (takes_of rfl rfl rfl rfl) (pv 0) (pa_cons (pe_ix ix_list (pv 2) pe_int (fun _ _ => rfl)) pa_nil)))))))))))))), ?_⟩
      refine ⟨_, rfl, rfl, _, rfl, ?_⟩
      rw [decide_eq_false (show ¬ num 5 = V.int 0 from fun z => by cases z)]
      refine iteF ?_
      refine ⟨_, rfl, rfl, _, rfl, ?_⟩
      rw [decide_eq_false (show ¬ num 5 = V.int 1 from fun z => by cases z)]
      refine iteF ?_
      refine ⟨_, rfl, rfl, _, rfl, ?_⟩
      rw [decide_eq_false (show ¬ num 5 = V.int 2 from fun z => by cases z)]
      refine iteF ?_
      refine ⟨_, rfl, rfl, _, rfl, ?_⟩
      rw [decide_eq_false (show ¬ num 5 = V.int 3 from fun z => by cases z)]
      refine iteF ?_
      refine ⟨_, rfl, rfl, _, rfl, ?_⟩
      rw [decide_eq_false (show ¬ num 5 = V.int 4 from fun z => by cases z)]
      refine iteF ?_
      exact ⟨_, rfl, o, dx, fs, rfl, e1, nl _ (by decide), _, rfl, t, _, _, v, rfl, rfl, SqL.of et, rfl, N, o, n, ow, pc, ks, st, fs, v, d, rfl, r, hd _ s0, bad, q⟩
end
end K41
namespace K41
open PySem PySem.Spec PyProof.Rows L2 Gd Gs Gx Ge
open C8 (clsBody Met pe_mt pe_mt0)
section
variable {P : Program} {w : World} {K : PySem.W.Frag} {mg : Str → Option Value} {base : Heap} {C CL CA fA CN fN CP fP CS fS CW fW CG fG CM fM CE : Addr}
def lostL (ow ks : List Nat) : List Nat := (List.range (ow.length + 1)).filter fun k => decide (k ∉ ks)
/-- a thing, its data -/
structure Th (K : PySem.W.Frag) (H : Hp) (v : V) (d : PyData) : Prop where
  dp : ∀ H', Same H H' → Dp K H' v d
  ok : Okd d 10000 2
def spBad (K : PySem.W.Frag) (CN CP CS C CL : Addr) : Sp := fun vs H Q _ => ∃ (N : Addr → Prop) (b o : Addr) (m : Int) (n : Nat) (ow pc ks : List Nat) (st : Int) (fs : List (Str × V)), vs = [.ref b, .ref o, num n] ∧ RowB N H o C CL n ow pc ks st fs ∧ BoxD H b m ∧ m ≤ 900000 ∧ ¬ N b ∧ ks ≠ [] ∧ ks.length ≤ 64 ∧ ow.length ≤ 63 ∧
  ∀ (t l1 l2 : Addr) (H' : Hp) (way : Nat) (things vals : List V) (ds : List PyData) (CX : Addr) (xf : List (Str × V)), H' t = some (.tup [num way, .ref l1, .ref l2]) → H' l1 = some (.lst things) → H' l2 = some (.lst vals) → AskB K H' CN CP CS n ow ks way things CX xf vals → (∀ H2, Same H' H2 → DpAll K H2 vals ds) → Okd (.list ds) 60000 4 → BoxD H' b (m + 20) → (∀ c u, c ≠ b → H c = some u → H' c = some u) → Q (.ref t) H'
theorem ok_bad (T : Txt K mg) (c__law_take : CalG P w K mg base 1 "_law_take" spTakeD) (m_many : Met P w K mg base 1 C "many" (spRMany C CL) []) (m_makes : Met P w K mg base 1 C "makes" (spMakes C CL) [])
    (D : DefAt K mg "_law_bad_ask" s__law_bad_ask ["_law_box_here", "_law_rows", "_law_size"]) : CalG P w K mg base 2 "_law_bad_ask" (spBad K CN CP CS C CL) := by
  refine D.cal sc__law_bad_ask (fun vs H Q E h => ?_) (fun f cdv A outer s H vs Q E hG hr h => ?_)
  · obtain ⟨N, b, o, m, n, ow, pc, ks, st, fs, rfl, _⟩ := h
    rfl
  · obtain ⟨N, b, o, m, n, ow, pc, ks, st, fs, rfl, r, hB, hm, nN, kne, h64, few, q⟩ := h
    have sz := r.sz
    have ev : (fun i : Nat => V.int (0 + ((i : Nat) : Int))) = num := by
      funext i
      show V.int _ = V.int _
      rw [Int.zero_add]
    refine ⟨_, (pss_cons (ps_set (i := 3) sc__law_bad_ask.nd rfl (Or.inl rfl) (pe_g c__law_take hG (hr.mono (by decide)) (by rfl) (pa_cons (pv 0) (pa_cons pe_int pa_nil))))
      (pss_cons (ps_set (i := 4) sc__law_bad_ask.nd rfl (Or.inr rfl) (pe_mt0 m_makes hr (by decide) (pv 1)))
      (pss_cons (ps_setLc (i := 5) (own := [("_law_one", 11)]) (g := gName 11) (tt := _) rfl sc__law_bad_ask.nd rfl rfl (sw_true rfl rfl rfl (by decide +kernel)) (pi_range1 rfl T.b_range (pa_cons (pe_mt0 m_many hr (by decide) (pv 1)) pa_nil)) (blkOk_by (own := [("_law_one", 11)]) (N := ["_law_box_here", "_law_rows", "_law_size", "_law_way", "_law_kept", "_law_lost", "_law_never", "_law_make", "_law_place", "_law_low", "_law_high", "_law_one"]) (sc := defScope s__law_bad_ask) (by decide +kernel)) (fun _ _ _ _ _ => pg_name (i := 11) sc__law_bad_ask.nd rfl (Or.inl rfl)) (fun _ _ _ _ _ => (pts_one (pt_cmpR (show OpR _ (compareOp .NotIn) (rIn K true) from op_notIn_seq) (pv 11) (pv 4) (by rfl)))) (fun _ _ _ _ _ => (pv 11)))
      (pss_cons (ps_set (i := 6) sc__law_bad_ask.nd rfl (Or.inl rfl) (pe_lst (pa_cons (pe_mt0 m_many hr (by decide) (pv 1)) (pa_cons (pe_un un_neg pe_int) (pa_cons pe_non (pa_cons pe_bl (pa_cons pe_str (pa_cons (pe_op op_pow pe_int pe_int) pa_nil))))))))
      (pss_cons (ps_set (i := 7) sc__law_bad_ask.nd rfl (Or.inl rfl) (pe_ix ix_list (pe_op op_cat (pv 6) (pe_op op_rep (pv 5) (pe_callTy call_int1 (by rfl) T.t_int boot_int_ (pa_cons (pe_cmpR op_lt (pv 3) pe_int (nomark _)) pa_nil)))) (pe_g c__law_take hG (hr.mono (by decide)) (by rfl) (pa_cons (pv 0) (pa_cons (pe_op op_add pe_int (pe_op op_mul (pe_callB call_len (by rfl) T.b_len boot_len_ (pa_cons (pv 5) pa_nil)) (pe_callTy call_int1 (by rfl) T.t_int boot_int_ (pa_cons (pe_cmpR op_lt (pv 3) pe_int (nomark _)) pa_nil)))) pa_nil))) (fun _ _ => rfl)))
      (pss_cons (ps_set (i := 8) sc__law_bad_ask.nd rfl (Or.inl rfl) (pe_ix ix_list (pe_lst (pa_cons (pv 2) (pa_cons (pe_un un_neg pe_int) (pa_cons pe_non (pa_cons pe_bl (pa_cons (pe_lst (pa_cons pe_int pa_nil)) pa_nil)))))) (pe_g c__law_take hG (hr.mono (by decide)) (by rfl) (pa_cons (pv 0) (pa_cons pe_int pa_nil))) (fun _ _ => rfl)))
      (pss_cons (ps_if (PW.pt (pw_or (pt_cmpR op_in_seq (pv 3) (pe_tup (pa_cons pe_int (pa_cons pe_int (pa_cons pe_int pa_nil)))) (by rfl)) (pw_or1 (pt_cmpR op_eq (pe_g c__law_take hG (hr.mono (by decide)) (by rfl) (pa_cons (pv 0) (pa_cons pe_int pa_nil))) pe_int (nomark _)))))
          (pss_one (ps_ret (pe_tup (pa_cons (pv 3) (pa_cons (pe_lst (pa_cons (pv 7) (pa_cons (pv 8) (pa_cons (pv 2) pa_nil)))) (pa_cons (pe_lst (pa_cons pe_str (pa_cons (pv 7) pa_nil))) pa_nil)))))) pss_nil)
      (pss_cons (ps_if (pt_cmpR op_eq (pv 3) pe_int (nomark _))
          (pss_cons (ps_asg (pe_ix ix_list (pe_lst (pa_cons (pe_tup (pa_cons pe_int (pa_cons pe_int pa_nil))) (pa_cons (pe_tup (pa_cons pe_int (pa_cons pe_int pa_nil))) (pa_cons (pe_tup (pa_cons pe_int (pa_cons (pe_op op_add (pv 2) pe_int) pa_nil))) (pa_cons (pe_tup (pa_cons (pv 8) (pa_cons (pv 2) pa_nil))) (pa_cons (pe_tup (pa_cons pe_int (pa_cons pe_non pa_nil))) (pa_cons (pe_tup (pa_cons pe_int (pa_cons pe_int pa_nil))) pa_nil))))))) (pe_g c__law_take hG (hr.mono (by decide)) (by rfl) (pa_cons (pv 0) (pa_cons pe_int pa_nil))) (fun _ _ => rfl)) (pg_tup (by rfl) (pgs_cons (pg_name (i := 9) sc__law_bad_ask.nd rfl (Or.inl rfl)) (pgs_cons (pg_name (i := 10) sc__law_bad_ask.nd rfl (Or.inl rfl)) pgs_nil))))
          (pss_one (ps_ret (pe_tup (pa_cons (pv 3) (pa_cons (pe_lst (pa_cons (pe_ix ix_list (pv 4) (pe_un un_neg pe_int) (fun _ _ => rfl)) (pa_cons (pv 9) (pa_cons (pv 10) pa_nil)))) (pa_cons (pe_lst (pa_cons pe_str (pa_cons (pv 9) (pa_cons (pv 10) pa_nil)))) pa_nil))))))) pss_nil)
      (pss_one (ps_ret (pe_tup (pa_cons (pv 3) (pa_cons (pe_lst (pa_cons (pe_ix ix_list (pv 4) (pe_un un_neg pe_int) (fun _ _ => rfl)) (pa_cons (pv 8) pa_nil))) (pa_cons (pe_lst (pa_cons pe_str (pa_cons (pv 8) pa_nil))) pa_nil)))))))))))))), ?_⟩
    refine ⟨_, rfl, b, 6, m, rfl, hB, by omega, by decide, by decide, fun wy H1 w0 w1 hB1 k1 => ?_⟩
    obtain ⟨way, rfl⟩ : ∃ way : Nat, wy = way := ⟨wy.toNat, by omega⟩
    have r1 := r.kp (H' := H1) fun c u hc z => (k1 c (fun e => nN (e ▸ hc))).trans z
    obtain ⟨dx, e1, nl⟩ := r1.ins
    refine ⟨_, rfl, o, dx, fs, rfl, e1, nl _ (by decide), N, o, n, ow, pc, ks, st, fs, rfl, r1, fun ka H2 hka eka s2 => ?_⟩
    have r2 := r1.same s2
    have hB2 := hB1.kp (H' := H2) fun u z => s2 _ _ z
    refine ⟨_, rfl, o, dx, fs, rfl, s2 _ _ e1, nl _ (by decide), N, o, n, ow, pc, ks, st, fs, rfl, r2, ?_⟩
    refine ⟨_, rfl, by omega, by omega, fun B hBn => ?_⟩
    rw [show (((ow.length + 1 : Nat) : Int)).toNat = ow.length + 1 from Int.toNat_natCast _]
    refine lc_it (walk_range (lo := 0) (n := ow.length + 1)) (fun k H' => Same H2 H' ∧ H' B = some (.lst (((List.range k).filter fun k => decide (k ∉ ks)).map num))) ⟨same_new hBn, upd_same⟩ (fun _ _ _ _ => trivial) (fun k v H3 H4 hk hP hY => ?_) (fun H3 hP => ?_)
    · obtain ⟨s3, eB⟩ := hP
      obtain ⟨rfl, rfl⟩ := hY
      rw [ev]
      refine ⟨rfl, ?_⟩
      refine ⟨_, rfl, _, rfl, ka, _, rfl, .inl (SqL.of (s3 _ _ eka)), rfl, flat_nums ks, ?_⟩
      have hlt : ((List.range k).filter fun k => decide (k ∉ ks)).length ≤ 64 := by
        refine Nat.le_trans (List.length_filter_le ..) ?_
        rw [List.length_range]
        omega
      rw [List.range_succ, List.filter_append]
      by_cases hks : k ∈ ks
      · rw [in_nums hks]
        refine ⟨_, rfl, iteF ⟨s3, ?_⟩⟩
        rw [eB]
        simp [hks]
      · rw [nin_nums hks]
        refine ⟨_, rfl, iteT ⟨_, rfl, _, eB, small1000 (by rw [List.length_map]; omega), fun c u z => ?_, ?_⟩⟩
        · rw [upd_ne (ne_of_none z hBn)]
          exact s3 _ _ z
        · rw [upd_same]
          simp [hks]
    obtain ⟨s3, eB⟩ := hP
    replace eB : H3 B = some (.lst ((lostL ow ks).map num)) := eB
    have r3 := r2.same s3
    have hB3 := hB2.kp (H' := H3) fun u z => s3 _ _ z
    have eka3 := s3 _ _ eka
    refine ⟨_, rfl, o, dx, fs, rfl, s3 _ _ (s2 _ _ e1), nl _ (by decide), N, o, n, ow, pc, ks, st, fs, rfl, r3, 1, rfl, ?_⟩
    refine ⟨_, _, rfl, rfl, ⟨by decide, by decide, by decide⟩, (by show 6 ≤ sizeLine; decide), fun nv hnv => ?_⟩
    generalize hg : upd H3 nv (HO.lst _) = H4
    have s4 : Same H3 H4 := hg ▸ same_new hnv
    have env : H4 nv = some (.lst [num (ow.length + 1), V.int (-1), .non, .bl true, .str "0", V.int (10 ^ (39 : Int).toNat)]) := by
      rw [← hg]
      exact upd_same
    clear hg
    have eB4 := s4 _ _ eB
    obtain ⟨lz, hlz⟩ : ∃ lz, lz = decide ((way : Int) < 4) := ⟨_, rfl⟩
    obtain ⟨L', hL'⟩ : ∃ L' : List V, L' = if way < 4 then (lostL ow ks).map num else [] := ⟨_, rfl⟩
    have hll : (lostL ow ks).length ≤ 64 := by
      refine Nat.le_trans (List.length_filter_le ..) ?_
      rw [List.length_range]
      omega
    have hrep : (List.replicate (if lz = true then (1 : Int) else 0).toNat ((lostL ow ks).map num)).flatten = L' := by
      rw [hL', hlz]
      by_cases h : way < 4
      · rw [decide_eq_true (show (way : Int) < 4 by omega), if_pos rfl, if_pos h]
        show (List.replicate 1 _).flatten = _
        simp
      · rw [decide_eq_false (show ¬ (way : Int) < 4 by omega), if_neg h]
        rfl
    have hml : ((((lostL ow ks).map num).length : Nat) : Int) * (if lz = true then (1 : Int) else 0) = (L'.length : Nat) := by
      rw [hL', hlz]
      by_cases h : way < 4
      · rw [decide_eq_true (show (way : Int) < 4 by omega), if_pos rfl, if_pos h]
        omega
      · rw [decide_eq_false (show ¬ (way : Int) < 4 by omega), if_neg h]
        show _ * (0 : Int) = _
        rw [Int.mul_zero]
        rfl
    have hLl : L'.length ≤ 64 := by
      rw [hL']
      split
      · rw [List.length_map]
        exact hll
      · exact Nat.zero_le _
    refine ⟨_, rfl, _, rfl, _, rfl, _, _, rfl, rfl, .inr ⟨lz, by rw [hlz], ?_⟩⟩
    refine ⟨B, _, _, rfl, rfl, eB4, by split <;> decide, by split <;> decide, ?_, fun rp hrp => ?_⟩
    · rw [List.length_map]
      refine Nat.le_trans (Nat.mul_le_mul hll (show (if lz = true then (1 : Int) else 0).toNat ≤ 1 by split <;> decide)) (by show 64 * 1 ≤ sizeLine; decide)
    rw [hrep]
    have s5 := same_new (o := .lst L') hrp
    have erp : (upd H4 rp (.lst L')) rp = some (.lst L') := upd_same
    generalize upd H4 rp (.lst L') = H5 at *
    refine ⟨nv, rp, _, _, rfl, rfl, s5 _ _ env, erp, ?_, fun cp hcp => ?_⟩
    · show 6 + L'.length ≤ sizeLine
      exact Nat.le_trans (show 6 + L'.length ≤ 70 by omega) (by decide)
    generalize hg : upd H5 cp (HO.lst _) = H6
    have s6 : Same H5 H6 := hg ▸ same_new hcp
    have ecp : H6 cp = some (.lst ([num (ow.length + 1), V.int (-1), .non, .bl true, .str "0", V.int (10 ^ (39 : Int).toNat)] ++ L')) := by
      rw [← hg]
      exact upd_same
    clear hg
    have s36 := s4.trans (s5.trans s6)
    have hB6 := hB3.kp (H' := H6) fun u z => s36 _ _ z
    refine ⟨_, rfl, _, rfl, .ref B, _, rfl, .inl ⟨_, SqL.of (s36 _ _ eB), rfl⟩, _, rfl, _, _, rfl, rfl, .inr ⟨lz, by rw [hlz], ?_⟩⟩
    refine ⟨_, _, rfl, rfl, ?_, _, _, rfl, rfl, ?_⟩
    · exact .inr (by split <;> exact ⟨by decide, by decide⟩)
    rw [hml]
    refine ⟨b, 6 + (L'.length : Nat), m + 1, rfl, hB6, by omega, by omega, by omega, fun g H7 g0 g1 hB7 k7 => ?_⟩
    have ecp7 : H7 cp = some _ := (k7 cp (hB6.kp (H' := H6) (fun u z => z) |>.some |> fun ⟨u, hu⟩ => fun e => by
      obtain ⟨_, _, _, kvs, hb, _⟩ := hB6
      rw [← e, ecp] at hb
      cases hb)).trans ecp
    have kl := r.kl
    obtain ⟨v, d, hat, hd, okd, bad, hno⟩ : ∃ (v : V) (d : PyData), atI ([num (ow.length + 1), V.int (-1), .non, .bl true, .str "0", V.int (10 ^ (39 : Int).toNat)] ++ L') g = some v ∧ (∀ H', Dp K H' v d) ∧ Okd d 10000 2 ∧ NoK ow ks d ∧ (¬ way < 4 → wholeD d 0 (ow.length : Nat) = false) := by
      have fin : ∀ (v : V) (d : PyData), atI ([num (ow.length + 1), V.int (-1), .non, .bl true, .str "0", V.int (10 ^ (39 : Int).toNat)] ++ L') g = some v → (∀ H', Dp K H' v d) → Okd d 10000 2 → wholeD d 0 (ow.length : Nat) = false → ∃ (v : V) (d : PyData), atI ([num (ow.length + 1), V.int (-1), .non, .bl true, .str "0", V.int (10 ^ (39 : Int).toNat)] ++ L') g = some v ∧ (∀ H', Dp K H' v d) ∧ Okd d 10000 2 ∧ NoK ow ks d ∧ (¬ way < 4 → wholeD d 0 (ow.length : Nat) = false) := fun v d a1 a2 a3 a4 => ⟨v, d, a1, a2, a3, .inl a4, fun _ => a4⟩
      by_cases h6 : g < 6
      · rcases (by omega : g = 0 ∨ g = 1 ∨ g = 2 ∨ g = 3 ∨ g = 4 ∨ g = 5) with rfl | rfl | rfl | rfl | rfl | rfl
        · refine fin _ (.int ((ow.length + 1 : Nat) : Int)) (atI_nat (j := 0) rfl) (fun _ => .int _) ((num2k (by omega)).up (by decide) (by decide)) ?_
          show (decide ((0 : Int) ≤ ((ow.length + 1 : Nat) : Int)) && decide (((ow.length + 1 : Nat) : Int) ≤ (ow.length : Nat))) = false
          rw [decide_eq_false (by omega : ¬ ((ow.length + 1 : Nat) : Int) ≤ (ow.length : Nat)), Bool.and_false]
        · exact fin _ (.int (-1)) (atI_nat (j := 1) rfl) (fun _ => .int _) ((okInt ⟨by decide, by decide⟩).up (by decide) (by decide)) rfl
        · exact fin _ .none (atI_nat (j := 2) rfl) (fun _ => .non) (okNone.up (by decide) (by decide)) rfl
        · exact fin _ (.bool true) (atI_nat (j := 3) rfl) (fun _ => .bl _) ((okBool _).up (by decide) (by decide)) rfl
        · exact fin _ (.str "0") (atI_nat (j := 4) rfl) (fun _ => .str _) ((okStr (m := 10) (by decide +kernel)).up (by decide) (by decide)) rfl
        · refine fin _ (.int (10 ^ (39 : Int).toNat)) (atI_nat (j := 5) rfl) (fun _ => .int _) ((okInt ⟨by decide, by decide⟩).up (by decide) (by decide)) ?_
          show (decide ((0 : Int) ≤ 10 ^ (39 : Int).toNat) && decide ((10 : Int) ^ (39 : Int).toNat ≤ (ow.length : Nat))) = false
          have h1000 : (1000 : Int) ≤ 10 ^ (39 : Int).toNat := by decide
          have h2 : decide ((10 : Int) ^ (39 : Int).toNat ≤ (ow.length : Nat)) = false := decide_eq_false (by omega)
          rw [h2, Bool.and_false]
      · obtain ⟨jj, rfl⟩ : ∃ jj : Nat, g = ((6 + jj : Nat) : Int) := ⟨(g - 6).toNat, by omega⟩
        have hw4 : way < 4 := by
          by_cases h : way < 4
          · exact h
          · rw [if_neg h] at hL'
            rw [hL'] at g1
            simp at g1
            omega
        rw [if_pos hw4] at hL'
        have hjl : jj < (lostL ow ks).length := by
          rw [hL', List.length_map] at g1
          omega
        obtain ⟨i, hi⟩ : ∃ i, (lostL ow ks)[jj]? = some i := ⟨_, List.getElem?_eq_getElem hjl⟩
        have him := List.mem_of_getElem? hi
        have hi2 := (List.mem_filter.mp him)
        have hi3 := List.mem_range.mp hi2.1
        have hi4 : i ∉ ks := of_decide_eq_true hi2.2
        refine ⟨num i, .int (i : Nat), ?_, fun _ => .int _, (num2k (by omega)).up (by decide) (by decide), .inr ⟨i, rfl, by omega, hi4⟩, fun h => absurd hw4 h⟩
        refine atI_nat ?_
        rw [List.getElem?_append_right (by show 6 ≤ 6 + jj; omega), hL', List.getElem?_map]
        show ((lostL ow ks)[6 + jj - 6]?).map num = _
        rw [show 6 + jj - 6 = jj by omega, hi]
        rfl
    refine ⟨cp, _, _, v, rfl, rfl, SqL.of ecp7, hat, ?_⟩
    -- a place
    refine ⟨_, rfl, 1, rfl, (by show 1 ≤ sizeLine; decide), fun z hz => ?_⟩
    have s8 := same_new (o := .lst [V.int 0]) hz
    have ez : (upd H7 z (.lst [V.int 0])) z = some (.lst [V.int 0]) := upd_same
    have hB8 := hB7.kp (H' := upd H7 z (.lst [V.int 0])) fun u e => s8 _ _ e
    have zb := hB7.ne hz
    generalize upd H7 z (.lst [V.int 0]) = H8 at *
    refine ⟨(by show 5 ≤ sizeLine; decide), fun pp hpp => ?_⟩
    generalize hg : upd H8 pp (HO.lst _) = H9
    have s9 : Same H8 H9 := hg ▸ same_new hpp
    have epp : H9 pp = some (.lst [num n, V.int (-1), .non, .bl false, .ref z]) := by
      rw [← hg]
      exact upd_same
    clear hg
    have hB9 := hB8.kp (H' := H9) fun u e => s9 _ _ e
    have ppb := hB8.ne hpp
    have ez9 := s9 _ _ ez
    refine ⟨_, rfl, b, 5, m + 1 + 1, rfl, hB9, by omega, by decide, by decide, fun gp H10 p0 p1 hB10 k10 => ?_⟩
    have ez10 : H10 z = some (.lst [V.int 0]) := (k10 z zb).trans ez9
    obtain ⟨u, du, hau, hdu, oku, badu⟩ : ∃ (u : V) (du : PyData), atI [num n, V.int (-1), .non, .bl false, .ref z] gp = some u ∧ (∀ H', H' z = some (.lst [V.int 0]) → Dp K H' u du) ∧ Okd du 10000 2 ∧ wholeD du 0 ((n : Nat) - 1 : Int) = false := by
      rcases (by omega : gp = 0 ∨ gp = 1 ∨ gp = 2 ∨ gp = 3 ∨ gp = 4) with rfl | rfl | rfl | rfl | rfl
      · refine ⟨_, .int (n : Nat), rfl, fun _ _ => .int _, (num2k (by omega)).up (by decide) (by decide), ?_⟩
        show (decide ((0 : Int) ≤ (n : Nat)) && decide (((n : Nat) : Int) ≤ (n : Nat) - 1)) = false
        rw [decide_eq_false (by omega : ¬ ((n : Nat) : Int) ≤ (n : Nat) - 1), Bool.and_false]
      · exact ⟨_, .int (-1), rfl, fun _ _ => .int _, (okInt ⟨by decide, by decide⟩).up (by decide) (by decide), rfl⟩
      · exact ⟨_, .none, rfl, fun _ _ => .non, okNone.up (by decide) (by decide), rfl⟩
      · exact ⟨_, .bool false, rfl, fun _ _ => .bl _, (okBool _).up (by decide) (by decide), rfl⟩
      · refine ⟨_, .list [.int 0], rfl, fun _ s => .lst (SqL.of s) (.cons (.int _) .nil), (okList (ds := [.int 0]) (m := 50) (e := 0) (n := 1) (fun d hd => ?_) (Nat.le_refl 1)).up (by decide) (by decide), rfl⟩
        rw [List.mem_singleton.mp hd]
        exact num2k (n := 0) (by decide)
    refine ⟨pp, _, _, u, rfl, rfl, SqL.of ((k10 pp ppb).trans epp), hau, ?_⟩
    have k09 : ∀ c u, c ≠ b → H c = some u → H10 c = some u := fun c u hc z => (k10 c hc).trans (s9 _ _ (s8 _ _ ((k7 c hc).trans (s36 _ _ (s3 _ _ (s2 _ _ ((k1 c hc).trans z)))))))
    have eka10 : H10 ka = some (.lst (ks.map num)) := by
      have kab : ka ≠ b := fun e => by
        obtain ⟨_, _, _, kvs, hb, _⟩ := hB2
        rw [← e, eka] at hb
        cases hb
      exact (k10 _ kab).trans (s9 _ _ (s8 _ _ ((k7 _ kab).trans (s36 _ _ eka3))))
    replace hB10 := hB10.up (show m + 1 + 1 + 1 ≤ m + 5 by omega)
    clear ez9 epp s9 s8 ez ppb hpp hz hB9 hB8 ecp7 k7 hB7 ecp hcp erp hrp hB6 s36 s6 s5 eB4 env s4 hnv eB hB3 s3 eka3 r3 hB2 r2 s2 hka eka k1 hB1 r1 e1 nl k10 hrep hml hBn
    clear H9 H8 H7 H6 H5 H4 H3 H2 H1
    have hw6 : way < 6 := by omega
    obtain ⟨il, ks', hks⟩ : ∃ il ks', ks = ks' ++ [il] := ⟨ks.getLast kne, ks.dropLast, (List.dropLast_concat_getLast _).symm⟩
    have hil : il ∈ ks := by
      rw [hks]
      simp
    have hla : atI (ks.map num) (-1) = some (num il) := by
      rw [hks, List.map_append]
      exact atI_last _ _
    have okv : ∀ (wd : Str) (d : PyData), Okd d 10000 2 → Okd (.str wd) 50 0 → Okd (.list [.str wd, d]) 60000 4 := fun wd d h1 h2 => (okList (ds := [.str wd, d]) (m := 10000) (e := 2) (n := 2) (fun x hx => by
      rcases List.mem_cons.mp hx with rfl | hx
      · exact h2.up (by decide) (by decide)
      · rw [List.mem_singleton.mp hx]
        exact h1) (Nat.le_refl 2)).up (by decide) (by decide)
    have okmk : Okd (.str "make") 50 0 := (okStr (m := 10) (by decide +kernel)).up (by decide) (by decide)
    have okpl : Okd (.str "place") 50 0 := (okStr (m := 10) (by decide +kernel)).up (by decide) (by decide)
    have okst : Okd (.str "stretch") 50 0 := (okStr (m := 20) (by decide +kernel)).up (by decide) (by decide)
    -- a way with the make alone
    refine' joinH (Pre := fun H' => (∀ c u, c ≠ b → H10 c = some u → H' c = some u) ∧ BoxD H' b (m + 8)) (fun one => ?main) ?one
    case main =>
      refine ⟨_, rfl, (by show 3 ≤ sizeLine; decide), fun tp htp => ?_⟩
      have s11 := same_new (o := .tup [V.int 1, V.int 3, V.int 5]) htp
      have etp : (upd H10 tp (.tup [V.int 1, V.int 3, V.int 5])) tp = some (.tup [V.int 1, V.int 3, V.int 5]) := upd_same
      have hB11 := hB10.kp (H' := upd H10 tp (.tup [V.int 1, V.int 3, V.int 5])) fun u e => s11 _ _ e
      generalize upd H10 tp (.tup [V.int 1, V.int 3, V.int 5]) = H11 at *
      refine ⟨tp, _, rfl, .inr (SqT.of etp), rfl, rfl, ?_⟩
      have h11 : (∀ c u, c ≠ b → H10 c = some u → H11 c = some u) := fun c u _ z => s11 _ _ z
      refine ⟨_, rfl, ?_⟩
      cases hin : inV (V.int (way : Nat)) [V.int 1, V.int 3, V.int 5] with
      | true => exact iteT (iteT (one H11 ⟨h11, hB11.up (by omega)⟩))
      | false =>
        refine iteF ?_
        refine ⟨_, rfl, b, 2, m + 5, rfl, hB11, by omega, by decide, by decide, fun g3 H12 _ _ hB12 k12 => ⟨rfl, _, rfl, ?_⟩⟩
        have h12 : (∀ c u, c ≠ b → H10 c = some u → H12 c = some u) := fun c u hc z => (k12 c hc).trans (h11 c u hc z)
        generalize decide (V.int g3 = V.int 0) = bg
        cases bg with
        | true => exact iteT (one H12 ⟨h12, hB12.up (by omega)⟩)
        | false =>
          refine iteF ?_
          have k012 : ∀ c u, c ≠ b → H c = some u → H12 c = some u := fun c u hc z => h12 c u hc (k09 c u hc z)
          have kab : ka ≠ b := fun e => by
            obtain ⟨_, _, _, kvs, hb, _⟩ := hB10
            rw [← e, eka10] at hb
            cases hb
          have eka12 := h12 _ _ kab eka10
          have ez12 : H12 z = some (.lst [V.int 0]) := h12 _ _ zb ez10
          have hdu12 : ∀ H', Same H12 H' → Dp K H' u du := fun H' s => hdu H' (s _ _ ez12)
          have weven : way = 0 ∨ way = 2 ∨ way = 4 := by
            rcases (by omega : way = 0 ∨ way = 1 ∨ way = 2 ∨ way = 3 ∨ way = 4 ∨ way = 5) with rfl | rfl | rfl | rfl | rfl | rfl
            · exact .inl rfl
            · cases hin
            · exact .inr (.inl rfl)
            · cases hin
            · exact .inr (.inr rfl)
            · cases hin
          clear hin h11 hB11 etp s11 htp
          refine ⟨_, rfl, rfl, _, rfl, ?_⟩
          by_cases hw2 : way = 2
          · rw [decide_eq_true (show V.int (way : Nat) = V.int 2 from by rw [hw2]; rfl)]
            refine iteT ?_
            have tupl : ∀ (x : Nat), True := fun _ => trivial
            refine ⟨(by show 2 ≤ sizeLine; decide), fun a1 ha1 => ?_⟩
            have u1 := same_new (o := .tup [V.int 0, V.int 0]) ha1
            have ea1 : (upd H12 a1 (.tup [V.int 0, V.int 0])) a1 = some (.tup [V.int 0, V.int 0]) := upd_same
            generalize upd H12 a1 (.tup [V.int 0, V.int 0]) = G1 at *
            refine ⟨(by show 2 ≤ sizeLine; decide), fun a2 ha2 => ?_⟩
            have u2 := same_new (o := .tup [V.int 1, V.int 1]) ha2
            have ea2 : (upd G1 a2 (.tup [V.int 1, V.int 1])) a2 = some (.tup [V.int 1, V.int 1]) := upd_same
            generalize upd G1 a2 (.tup [V.int 1, V.int 1]) = G2 at *
            refine ⟨_, rfl, _, _, rfl, rfl, (by show 2 ≤ sizeLine; decide), fun a3 ha3 => ?_⟩
            generalize hg : upd G2 a3 (HO.tup _) = G3
            have u3 : Same G2 G3 := hg ▸ same_new ha3
            have ea3 : G3 a3 = some (.tup [V.int 0, V.int ((n : Nat) + 1)]) := by
              rw [← hg]
              exact upd_same
            clear hg
            refine ⟨_, rfl, _, rfl, (by show 2 ≤ sizeLine; decide), fun a4 ha4 => ?_⟩
            have u4 := same_new (o := .tup [u, num n]) ha4
            have ea4 : (upd G3 a4 (.tup [u, num n])) a4 = some (.tup [u, num n]) := upd_same
            generalize upd G3 a4 (.tup [u, num n]) = G4 at *
            refine ⟨(by show 2 ≤ sizeLine; decide), fun a5 ha5 => ?_⟩
            have u5 := same_new (o := .tup [V.int 0, V.non]) ha5
            have ea5 : (upd G4 a5 (.tup [V.int 0, V.non])) a5 = some (.tup [V.int 0, V.non]) := upd_same
            generalize upd G4 a5 (.tup [V.int 0, V.non]) = G5 at *
            refine ⟨(by show 2 ≤ sizeLine; decide), fun a6 ha6 => ?_⟩
            have u6 := same_new (o := .tup [V.int 2, V.int 1]) ha6
            have ea6 : (upd G5 a6 (.tup [V.int 2, V.int 1])) a6 = some (.tup [V.int 2, V.int 1]) := upd_same
            generalize upd G5 a6 (.tup [V.int 2, V.int 1]) = G6 at *
            refine ⟨(by show 6 ≤ sizeLine; decide), fun lp hlp => ?_⟩
            have u7 := same_new (o := .lst [.ref a1, .ref a2, .ref a3, .ref a4, .ref a5, .ref a6]) hlp
            have elp : (upd G6 lp (.lst [.ref a1, .ref a2, .ref a3, .ref a4, .ref a5, .ref a6])) lp = some (.lst [.ref a1, .ref a2, .ref a3, .ref a4, .ref a5, .ref a6]) := upd_same
            generalize upd G6 lp (.lst [.ref a1, .ref a2, .ref a3, .ref a4, .ref a5, .ref a6]) = G7 at *
            have w6 := u7
            have w5 := u6.trans w6
            have w4 := u5.trans w5
            have w3 := u4.trans w4
            have w2 := u3.trans w3
            have w1 := u2.trans w2
            have w0 := u1.trans w1
            have hBG := hB12.kp (H' := G7) fun x z => w0 _ _ z
            refine ⟨_, rfl, b, 6, m + 5 + 1, rfl, hBG, by omega, by decide, by decide, fun gs G8 c0 c1 hBs ks8 => ?_⟩
            have kb8 : ∀ c x, c ≠ b → G7 c = some x → G8 c = some x := fun c x hc z => (ks8 c hc).trans z
            have nbt : ∀ c ys, G7 c = some (.tup ys) → c ≠ b := fun c ys z e => by
              obtain ⟨_, _, _, kvs, hb, _⟩ := hBG
              rw [e, hb] at z
              cases z
            have lpb : lp ≠ b := fun e => by
              obtain ⟨_, _, _, kvs, hb, _⟩ := hBG
              rw [← e, elp] at hb
              cases hb
            have hdu8 : ∀ H', Same G8 H' → Dp K H' u du := fun H' s => hdu H' (s _ _ (kb8 _ _ zb (w0 _ _ ez12)))
            obtain ⟨aj, lo, hh, dl, dh, haj, eaj, hdl, hdh, okl, okh, bads⟩ : ∃ (aj : Addr) (lo hh : V) (dl dh : PyData), atI [V.ref a1, V.ref a2, V.ref a3, V.ref a4, V.ref a5, V.ref a6] gs = some (.ref aj) ∧ G8 aj = some (.tup [lo, hh]) ∧ (∀ H', Same G8 H' → Dp K H' lo dl) ∧ (∀ H', Same G8 H' → Dp K H' hh dh) ∧ Okd dl 10000 2 ∧ Okd dh 10000 2 ∧ NoS n dl dh := by
              have oki : ∀ k : Nat, k ≤ 20 → Okd (.int ((k : Nat) : Int)) 10000 2 := fun k h => (num2k (by omega)).up (by decide) (by decide)
              rcases (by omega : gs = 0 ∨ gs = 1 ∨ gs = 2 ∨ gs = 3 ∨ gs = 4 ∨ gs = 5) with rfl | rfl | rfl | rfl | rfl | rfl
              · exact ⟨a1, .int 0, .int 0, .int 0, .int 0, rfl, kb8 _ _ (nbt _ _ (w1 _ _ ea1)) (w1 _ _ ea1), fun _ _ => .int _, fun _ _ => .int _, oki 0 (by decide), oki 0 (by decide), .inr ⟨0, rfl, by omega, rfl⟩⟩
              · refine ⟨a2, .int 1, .int 1, .int 1, .int 1, rfl, kb8 _ _ (nbt _ _ (w2 _ _ ea2)) (w2 _ _ ea2), fun _ _ => .int _, fun _ _ => .int _, oki 1 (by decide), oki 1 (by decide), ?_⟩
                by_cases hn : 1 < n
                · exact .inr ⟨1, rfl, hn, rfl⟩
                · refine .inl ?_
                  show (decide ((0 : Int) ≤ 1) && decide ((1 : Int) ≤ (n : Nat) - 1)) = false
                  rw [decide_eq_false (by omega : ¬ (1 : Int) ≤ (n : Nat) - 1), Bool.and_false]
              · refine ⟨a3, .int 0, .int ((n : Nat) + 1), .int 0, .int ((n : Nat) + 1), rfl, kb8 _ _ (nbt _ _ (w3 _ _ ea3)) (w3 _ _ ea3), fun _ _ => .int _, fun _ _ => .int _, oki 0 (by decide), oki (n + 1) (by omega), .inr ⟨0, rfl, by omega, ?_⟩⟩
                show (decide _ && decide (((n : Nat) : Int) + 1 ≤ (n : Nat))) = false
                rw [decide_eq_false (by omega : ¬ ((n : Nat) : Int) + 1 ≤ (n : Nat)), Bool.and_false]
              · exact ⟨a4, u, num n, du, .int (n : Nat), rfl, kb8 _ _ (nbt _ _ (w4 _ _ ea4)) (w4 _ _ ea4), hdu8, fun _ _ => .int _, oku, oki n (by omega), .inl badu⟩
              · exact ⟨a5, .int 0, .non, .int 0, .none, rfl, kb8 _ _ (nbt _ _ (w5 _ _ ea5)) (w5 _ _ ea5), fun _ _ => .int _, fun _ _ => .non, oki 0 (by decide), okNone.up (by decide) (by decide), .inr ⟨0, rfl, by omega, rfl⟩⟩
              · refine ⟨a6, .int 2, .int 1, .int 2, .int 1, rfl, kb8 _ _ (nbt _ _ (w6 _ _ ea6)) (w6 _ _ ea6), fun _ _ => .int _, fun _ _ => .int _, oki 2 (by decide), oki 1 (by decide), ?_⟩
                by_cases hn : 2 < n
                · exact .inr ⟨2, rfl, hn, rfl⟩
                · refine .inl ?_
                  show (decide ((0 : Int) ≤ 2) && decide ((2 : Int) ≤ (n : Nat) - 1)) = false
                  rw [decide_eq_false (by omega : ¬ (2 : Int) ≤ (n : Nat) - 1), Bool.and_false]
            refine ⟨lp, _, _, .ref aj, rfl, rfl, SqL.of (kb8 _ _ lpb elp), haj, aj, _, rfl, SqT.of eaj, rfl, _, _, rfl, _, _, rfl, rfl, ?_⟩
            have eka8 := kb8 _ _ kab (w0 _ _ eka12)
            have k08 : ∀ c x, c ≠ b → H c = some x → G8 c = some x := fun c x hc z => kb8 _ _ hc (w0 _ _ (k012 c x hc z))
            refine ⟨_, rfl, _, rfl, 1, rfl, ka, _, _, num il, rfl, rfl, SqL.of eka8, hla, _, rfl, _, rfl, (by show 3 ≤ sizeLine; decide), fun l1 hl1 => ?_⟩
            have s12 := same_new (o := .lst [num il, lo, hh]) hl1
            have el1 : (upd G8 l1 (.lst [num il, lo, hh])) l1 = some (.lst [num il, lo, hh]) := upd_same
            generalize upd G8 l1 (.lst [num il, lo, hh]) = E1 at *
            refine ⟨_, rfl, _, rfl, (by show 3 ≤ sizeLine; decide), fun l2 hl2 => ?_⟩
            have s13 := same_new (o := .lst [.str "stretch", lo, hh]) hl2
            have el2 : (upd E1 l2 (.lst [.str "stretch", lo, hh])) l2 = some (.lst [.str "stretch", lo, hh]) := upd_same
            generalize upd E1 l2 (.lst [.str "stretch", lo, hh]) = E2 at *
            refine ⟨(by show 3 ≤ sizeLine; decide), fun t ht => ?_⟩
            have s14 := same_new (o := .tup [num way, .ref l1, .ref l2]) ht
            have et : (upd E2 t (.tup [num way, .ref l1, .ref l2])) t = some (.tup [num way, .ref l1, .ref l2]) := upd_same
            have s84 := s12.trans (s13.trans s14)
            have ok3 : Okd (.list [.str "stretch", dl, dh]) 60000 4 := (okList (ds := [.str "stretch", dl, dh]) (m := 10000) (e := 2) (n := 3) (fun x hx => by
              rcases List.mem_cons.mp hx with rfl | hx
              · exact okst.up (by decide) (by decide)
              rcases List.mem_cons.mp hx with rfl | hx
              · exact okl
              · rw [List.mem_singleton.mp hx]
                exact okh) (Nat.le_refl 3)).up (by decide) (by decide)
            refine q t l1 l2 _ way [num il, lo, hh] [.str "stretch", lo, hh] [.str "stretch", dl, dh] CS [(("low" : Str), lo), (("high" : Str), hh)] et ((s13.trans s14) _ _ el1) (s14 _ _ el2) ?_ (fun H2 s2 => .cons (.str _) (.cons (hdl _ (s84.trans s2)) (.cons (hdh _ (s84.trans s2)) .nil))) ok3 ((hBs.kp fun x z => s84 _ _ z).up (by omega)) fun c x hc z => s84 _ _ (k08 c x hc z)
            exact .inr (.inr (.inr (.inr (.inl ⟨il, lo, hh, dl, dh, hw2, rfl, kl il hil, hil, fun H' s => .dp (hdl _ (s84.trans s)), fun H' s => .dp (hdh _ (s84.trans s)), bads, rfl, rfl, rfl⟩))))
          · rw [decide_eq_false (show ¬ V.int (way : Nat) = V.int 2 from fun z => hw2 (num_eq (a := way) (b := 2) z))]
            refine iteF ?_
            refine ⟨_, rfl, _, rfl, 1, rfl, ka, _, _, num il, rfl, rfl, SqL.of eka12, hla, _, rfl, (by show 2 ≤ sizeLine; decide), fun l1 hl1 => ?_⟩
            have s12 := same_new (o := .lst [num il, u]) hl1
            have el1 : (upd H12 l1 (.lst [num il, u])) l1 = some (.lst [num il, u]) := upd_same
            generalize upd H12 l1 (.lst [num il, u]) = E1 at *
            refine ⟨_, rfl, (by show 2 ≤ sizeLine; decide), fun l2 hl2 => ?_⟩
            have s13 := same_new (o := .lst [.str "place", u]) hl2
            have el2 : (upd E1 l2 (.lst [.str "place", u])) l2 = some (.lst [.str "place", u]) := upd_same
            generalize upd E1 l2 (.lst [.str "place", u]) = E2 at *
            refine ⟨(by show 3 ≤ sizeLine; decide), fun t ht => ?_⟩
            have s14 := same_new (o := .tup [num way, .ref l1, .ref l2]) ht
            have et : (upd E2 t (.tup [num way, .ref l1, .ref l2])) t = some (.tup [num way, .ref l1, .ref l2]) := upd_same
            have s84 := s12.trans (s13.trans s14)
            refine q t l1 l2 _ way [num il, u] [.str "place", u] [.str "place", du] CP [(("found" : Str), u)] et ((s13.trans s14) _ _ el1) (s14 _ _ el2) ?_ (fun H2 s2 => .cons (.str _) (.cons (hdu12 _ (s84.trans s2)) .nil)) (okv _ _ oku okpl) ((hB12.kp fun x z => s84 _ _ z).up (by omega)) fun c x hc z => s84 _ _ (k012 c x hc z)
            rcases weven with h | h | h
            · exact .inr (.inl ⟨il, u, du, h, rfl, kl il hil, hil, fun H' s => .dp (hdu12 _ (s84.trans s)), badu, rfl, rfl, rfl⟩)
            · exact absurd h hw2
            · exact .inr (.inr (.inr (.inr (.inr (.inr (.inr (.inl ⟨il, u, du, h, rfl, kl il hil, fun H' s => .dp (hdu12 _ (s84.trans s)), badu, rfl, rfl, rfl⟩)))))))
    case one =>
      intro H11 ⟨k11, hB11⟩
      have k011 : ∀ c u, c ≠ b → H c = some u → H11 c = some u := fun c u hc z => k11 c u hc (k09 c u hc z)
      refine ⟨_, rfl, _, rfl, _, rfl, _, rfl, (by show 3 ≤ sizeLine; decide), fun l1 hl1 => ?_⟩
      have s12 := same_new (o := .lst [v, u, num n]) hl1
      have el1 : (upd H11 l1 (.lst [v, u, num n])) l1 = some (.lst [v, u, num n]) := upd_same
      generalize upd H11 l1 (.lst [v, u, num n]) = H12 at *
      refine ⟨_, rfl, (by show 2 ≤ sizeLine; decide), fun l2 hl2 => ?_⟩
      have s13 := same_new (o := .lst [.str "make", v]) hl2
      have el2 : (upd H12 l2 (.lst [.str "make", v])) l2 = some (.lst [.str "make", v]) := upd_same
      generalize upd H12 l2 (.lst [.str "make", v]) = H13 at *
      refine ⟨(by show 3 ≤ sizeLine; decide), fun t ht => ?_⟩
      have s14 := same_new (o := .tup [num way, .ref l1, .ref l2]) ht
      have et : (upd H13 t (.tup [num way, .ref l1, .ref l2])) t = some (.tup [num way, .ref l1, .ref l2]) := upd_same
      have s1114 := s12.trans (s13.trans s14)
      refine q t l1 l2 _ way [v, u, num n] [.str "make", v] [.str "make", d] CN [(("found" : Str), v)] et ((s13.trans s14) _ _ el1) (s14 _ _ el2) ?_ (fun H2 _ => .cons (.str _) (.cons (hd _) .nil)) (okv _ _ okd okmk) ((hB11.kp fun w z => s1114 _ _ z).up (by omega)) fun c w hc z => s1114 _ _ (k011 c w hc z)
      have dd : ∀ H', Same (upd H13 t (.tup [num way, .ref l1, .ref l2])) H' → D1 K H' v d := fun H' _ => .dp (hd _)
      rcases (by omega : way = 0 ∨ way = 1 ∨ way = 2 ∨ way = 3 ∨ way = 4 ∨ way = 5) with rfl | rfl | rfl | rfl | rfl | rfl
      · exact .inl ⟨v, u, num n, d, rfl, rfl, dd, bad, rfl, rfl, rfl⟩
      · exact .inr (.inr (.inl ⟨v, u, num n, d, rfl, rfl, dd, bad, rfl, rfl, rfl⟩))
      · exact .inr (.inr (.inr (.inl ⟨v, u, num n, d, rfl, rfl, dd, bad, rfl, rfl, rfl⟩)))
      · exact .inr (.inr (.inr (.inr (.inr (.inl ⟨v, u, num n, d, rfl, rfl, dd, bad, rfl, rfl, rfl⟩)))))
      · exact .inr (.inr (.inr (.inr (.inr (.inr (.inl ⟨v, u, num n, d, rfl, rfl, dd, hno (by decide), rfl, rfl, rfl⟩))))))
      · exact .inr (.inr (.inr (.inr (.inr (.inr (.inr (.inr ⟨v, u, num n, d, rfl, rfl, dd, hno (by decide), rfl, rfl, rfl⟩)))))))
end
end K41
namespace K41
open PySem PySem.Spec PyProof.Rows L2 Gd Gs Gx Ge
open C8 (clsBody Met pe_mt pe_mt0)
section
variable {P : Program} {w : World} {K : PySem.W.Frag} {mg : Str → Option Value} {base : Heap} {C CL CA fA CN fN CP fP CS fS CW fW CG fG CM fM CE : Addr}
theorem AskB.same {H H1 : Hp} {n : Nat} {ow ks : List Nat} {way : Nat} {things : List V} {C : Addr} {fs : List (Str × V)} {vals : List V} (s : Same H H1) (h : AskB K H CN CP CS n ow ks way things C fs vals) : AskB K H1 CN CP CS n ow ks way things C fs vals := by
  rcases h with h | h | h | h | h | h | h | h | h
  · obtain ⟨v, u, u2, d, e1, e2, hd, rest⟩ := h
    exact .inl (⟨v, u, u2, d, e1, e2, fun H' z => hd H' (s.trans z), rest⟩)
  · obtain ⟨i, v, d, e1, e2, hi, hk, hd, rest⟩ := h
    exact .inr (.inl (⟨i, v, d, e1, e2, hi, hk, fun H' z => hd H' (s.trans z), rest⟩))
  · obtain ⟨v, u, u2, d, e1, e2, hd, rest⟩ := h
    exact .inr (.inr (.inl (⟨v, u, u2, d, e1, e2, fun H' z => hd H' (s.trans z), rest⟩)))
  · obtain ⟨v, u, u2, d, e1, e2, hd, rest⟩ := h
    exact .inr (.inr (.inr (.inl (⟨v, u, u2, d, e1, e2, fun H' z => hd H' (s.trans z), rest⟩))))
  · obtain ⟨i, v, v2, d, d2, e1, e2, hi, hk, hd, hd2, rest⟩ := h
    exact .inr (.inr (.inr (.inr (.inl (⟨i, v, v2, d, d2, e1, e2, hi, hk, fun H' z => hd H' (s.trans z), fun H' z => hd2 H' (s.trans z), rest⟩)))))
  · obtain ⟨v, u, u2, d, e1, e2, hd, rest⟩ := h
    exact .inr (.inr (.inr (.inr (.inr (.inl (⟨v, u, u2, d, e1, e2, fun H' z => hd H' (s.trans z), rest⟩))))))
  · obtain ⟨v, u, u2, d, e1, e2, hd, rest⟩ := h
    exact .inr (.inr (.inr (.inr (.inr (.inr (.inl (⟨v, u, u2, d, e1, e2, fun H' z => hd H' (s.trans z), rest⟩)))))))
  · obtain ⟨i, v, d, e1, e2, hi, hd, rest⟩ := h
    exact .inr (.inr (.inr (.inr (.inr (.inr (.inr (.inl (⟨i, v, d, e1, e2, hi, fun H' z => hd H' (s.trans z), rest⟩))))))))
  · obtain ⟨v, u, u2, d, e1, e2, hd, rest⟩ := h
    exact .inr (.inr (.inr (.inr (.inr (.inr (.inr (.inr (⟨v, u, u2, d, e1, e2, fun H' z => hd H' (s.trans z), rest⟩))))))))
theorem AskB.rf {H : Hp} {n : Nat} {ow ks : List Nat} {way : Nat} {things : List V} {C : Addr} {fs : List (Str × V)} {vals : List V} (h : AskB K H CN CP CS n ow ks way things C fs vals) : Rf CA CN CP CS CW CG CM C fs vals := by
  rcases h with h | h | h | h | h | h | h | h | h
  · obtain ⟨v, u, u2, d, _, _, _, _, h1, h2, h3⟩ := h
    exact .inr (.inl ⟨v, h1, h2, h3⟩)
  · obtain ⟨i, v, d, _, _, _, _, _, _, h1, h2, h3⟩ := h
    exact .inr (.inr (.inl ⟨v, h1, h2, h3⟩))
  · obtain ⟨v, u, u2, d, _, _, _, _, h1, h2, h3⟩ := h
    exact .inr (.inl ⟨v, h1, h2, h3⟩)
  · obtain ⟨v, u, u2, d, _, _, _, _, h1, h2, h3⟩ := h
    exact .inr (.inl ⟨v, h1, h2, h3⟩)
  · obtain ⟨i, v, v2, d, d2, _, _, _, _, _, _, _, h1, h2, h3⟩ := h
    exact .inr (.inr (.inr (.inl ⟨v, v2, h1, h2, h3⟩)))
  · obtain ⟨v, u, u2, d, _, _, _, _, h1, h2, h3⟩ := h
    exact .inr (.inl ⟨v, h1, h2, h3⟩)
  · obtain ⟨v, u, u2, d, _, _, _, _, h1, h2, h3⟩ := h
    exact .inr (.inl ⟨v, h1, h2, h3⟩)
  · obtain ⟨i, v, d, _, _, _, _, _, h1, h2, h3⟩ := h
    exact .inr (.inr (.inl ⟨v, h1, h2, h3⟩))
  · obtain ⟨v, u, u2, d, _, _, _, _, h1, h2, h3⟩ := h
    exact .inr (.inl ⟨v, h1, h2, h3⟩)
def spAr (C CL : Addr) : Sp := fun vs H Q _ => ∃ (N : Addr → Prop) (b o : Addr) (m : Int) (n : Nat) (ow pc ks : List Nat) (st : Int) (fs : List (Str × V)), vs = [.ref b, .ref o, num n] ∧ RowB N H o C CL n ow pc ks st fs ∧ BoxD H b m ∧ m ≤ 900000 ∧ ¬ N b ∧ ks ≠ [] ∧ ks.length ≤ 64 ∧ ow.length ≤ 63 ∧
  ∀ (H' : Hp), BoxD H' b (m + 20) → (∀ c u, c ≠ b → H c = some u → H' c = some u) → Q (.bl true) H'
theorem ok_ar (T : Txt K mg) (R : RfT P K mg CA fA CN fN CP fP CS fS CW fW CG fG CM fM CE) (c_caught : Gc.CalE P w K mg base 1 "_law_caught" (spCt CA CN CP CS CW CG CM)) (c_ask : CalX P w K mg base 9 "_law_ask" (spAsk K CN CP CS C CL)) (c__law_bad_ask : CalG P w K mg base 2 "_law_bad_ask" (spBad K CN CP CS C CL))
    (D : DefAt K mg "_law_asks_refused" s__law_asks_refused ["_law_box_here", "_law_rows", "_law_size"]) : CalG P w K mg base 11 "_law_asks_refused" (spAr C CL) := by
  refine D.cal sc__law_asks_refused (fun vs H Q E h => ?_) (fun f cdv A outer s H vs Q E hG hr h => ?_)
  · obtain ⟨N, b, o, m, n, ow, pc, ks, st, fs, rfl, _⟩ := h
    rfl
  · obtain ⟨N, b, o, m, n, ow, pc, ks, st, fs, rfl, r, hB, hm, nN, kne, h64, few, q⟩ := h
    refine ⟨_, (pss_cons (ps_asg (pe_g c__law_bad_ask hG (hr.mono (by decide)) (by rfl) (pa_cons (pv 0) (pa_cons (pv 1) (pa_cons (pv 2) pa_nil)))) (pg_tup (by rfl) (pgs_cons (pg_name (i := 3) sc__law_asks_refused.nd rfl (Or.inl rfl)) (pgs_cons (pg_name (i := 4) sc__law_asks_refused.nd rfl (Or.inl rfl)) (pgs_cons (pg_name (i := 5) sc__law_asks_refused.nd rfl (Or.inl rfl)) pgs_nil)))))
      (pss_cons (ps_set (i := 6) sc__law_asks_refused.nd rfl (Or.inl rfl) (pe_lst (pa_cons pe_str pa_nil)))
      (pss_cons (ps_try_as (i := 7) (tb := fun W => tDrop (tCallS (spAsk K CN CP CS C CL) (WE W) (tCons (tVar 1) (tCons (tVar 3) (tCons (tVar 4) tNil))))) (ts := fun a cls d => tAsg (Gc.tCallE (spCt CA CN CP CS CW CG CM) a cls d (tCons (tVar 7) tNil)) (gName 6)) (Wout := fun _ _ _ _ => False) rfl rfl sc__law_asks_refused.nd rfl rfl ⟨rfl, by decide, Or.inl R.g_MakesError⟩ takes0 (fun W pn xe tk _ => pss_one (ps_expr (by exact (pe_gx c_ask hG (hr.mono (by decide)) (by rfl) tk (by exact (pa_cons (pv 1) (pa_cons (pv 3) (pa_cons (pv 4) pa_nil)))))))) (fun a oe cls d pn hz hf => pss_one (ps_set (i := 6) sc__law_asks_refused.nd rfl (Or.inl rfl) (Gc.pe_callE c_caught List.mem_cons_self hz hf (roomM hr (by decide)) (by rfl) (pa_cons (pv 7) pa_nil)))))
      (pss_one (ps_ret (pe_cmpR op_eq (pe_callB (call_repr hG (hu64 hr)) (by rfl) T.b_repr boot_repr_ (pa_cons (pv 6) pa_nil)) (pe_callB (call_repr hG (hu64 hr)) (by rfl) T.b_repr boot_repr_ (pa_cons (pv 5) pa_nil)) (nomark _))))))), ?_⟩
    refine ⟨_, rfl, _, rfl, _, rfl, N, b, o, m, n, ow, pc, ks, st, fs, rfl, r, hB, hm, nN, kne, h64, few, fun t l1 l2 H1 way things vals ds CX xf et el1 el2 ab hdp okd hB1 k1 => ?_⟩
    refine ⟨t, _, rfl, SqT.of et, rfl, _, _, rfl, _, _, rfl, _, _, rfl, rfl, ?_⟩
    refine ⟨(by show 1 ≤ sizeLine; decide), fun l0 hl0 => ?_⟩
    have s1 := same_new (o := .lst [V.str "told"]) hl0
    generalize upd H1 l0 (.lst [V.str "told"]) = H2 at *
    have r2 := (r.kp (H' := H1) fun c u hc z => k1 c u (fun e => nN (e ▸ hc)) z).same s1
    obtain ⟨dx, e1, nl⟩ := r2.ins
    refine ⟨_, rfl, _, rfl, _, rfl, N, o, l1, n, ow, pc, ks, st, fs, way, things, CX, xf, vals, rfl, r2, s1 _ _ el1, ab.same s1, fun a ha => ?_⟩
    refine ⟨true, (AskB.rf (CA := CA) ab).exm R, fun _ a' ha' => ?_, fun z => nomatch z⟩
    have sx : Same H2 (upd H2 a (.xd xf)) := same_new ha
    have ex : (upd H2 a (.xd xf)) a = some (.xd xf) := upd_same
    generalize upd H2 a (.xd xf) = H3 at *
    refine ⟨_, rfl, a, CX, xf, vals, rfl, AskB.rf ab, rfl, rfl, ex, fun l H4 hl el s4 => ?_⟩
    have s24 := s1.trans (sx.trans s4)
    refine ⟨_, rfl, _, _, rfl, .d1 (.dp (.lst (SqL.of el) (hdp _ s24))), okd.sh, Nat.le_trans okd.ln (by decide), Nat.le_trans okd.dp (by decide), _, rfl, _, _, rfl, .d1 (.dp (.lst (SqL.of (s24 _ _ el2)) (hdp _ s24))), okd.sh, Nat.le_trans okd.ln (by decide), Nat.le_trans okd.dp (by decide), rfl, ?_⟩
    rw [decide_eq_true rfl]
    exact q H4 (hB1.kp fun u z => s24 _ _ z) fun c u hc z => s24 _ _ (k1 c u hc z)
end
end K41
namespace K41
open PySem PySem.Spec PyProof.Rows L2 Gd Gs Gx Ge
open NdefX (NScope nscope_by ncx startF NF)
open C8 (clsBody Met pe_mt pe_mt0)
section
variable {P : Program} {w : World} {K : PySem.W.Frag} {mg : Str → Option Value} {base : Heap} {C CL CA fA CN fN CP fP CS fS CW fW CG fG CM fM CE : Addr}
def worthD (d : PyData) : Bool := wholeD d (-big30) big30
def changeD (d : PyData) (size : Int) : Bool := match d with
  | .tuple [x, y] => wholeD x 0 (size - 1) && worthD y
  | _ => false
def changesD (d : PyData) (size : Int) : Bool := match d with
  | .list ds => decide (ds.length ≤ 20) && ds.all fun d => changeD d size
  | .tuple ds => decide (ds.length ≤ 20) && ds.all fun d => changeD d size
  | _ => false
theorem d1Tup {H : Hp} {v : V} {ds : List PyData} (h : D1 K H v (.tuple ds)) : ∃ a xs, v = .ref a ∧ SqT K H a xs ∧ DpAll K H xs ds := by
  cases h with
  | dp h =>
    cases h with
    | tup h r => exact ⟨_, _, rfl, h, r⟩
theorem d1Lst {H : Hp} {v : V} {ds : List PyData} (h : D1 K H v (.list ds)) : ∃ a xs, v = .ref a ∧ SqL K H a xs ∧ DpAll K H xs ds := by
  cases h with
  | dp h =>
    cases h with
    | lst h r => exact ⟨_, _, rfl, h, r⟩
def spWorthD (K : PySem.W.Frag) : Sp := fun vs H Q _ => ∃ (v : V) (d : PyData), vs = [v] ∧ D1 K H v d ∧ Q (.bl (worthD d)) H
theorem ok_worthD (T : Txt K mg) (c_is_whole : C8.Cal P w K mg base 1 "is_whole" (spWhole K) []) (D : DefAt K mg "is_worth" s_is_worth ["thing"]) : C8.Cal P w K mg base 2 "is_worth" (spWorthD K) [] := by
  obtain ⟨f, fd, F, m, b⟩ := D.ex
  refine ⟨f, fd, _, [], F.ok sc_is_worth (fun vs H Q E h => ?_) (fun cdv A outer s H vs Q E hr h => ?_), m, F.kp, b, .nil⟩
  · obtain ⟨v, d, rfl, _⟩ := h
    rfl
  · obtain ⟨v, d, rfl, hd, q⟩ := h
    refine ⟨_, (pss_one (ps_ret (C8.pe_c c_is_whole hr (by decide) (by rfl) (pa_cons (pv 0) (pa_cons (pe_un un_neg (pe_gi rfl T.g_MOST_WORTH)) (pa_cons (pe_gi rfl T.g_MOST_WORTH) pa_nil)))))), ?_⟩
    exact ⟨_, rfl, _, rfl, v, d, _, _, rfl, hd, q⟩
def spChangeD (K : PySem.W.Frag) : Sp := fun vs H Q _ => ∃ (v : V) (d : PyData) (size : Int), vs = [v, .int size] ∧ D1 K H v d ∧ Q (.bl (changeD d size)) H
theorem len_test {n : Nat} : decide (V.int (n : Nat) = V.int 2) = decide (n = 2) := by
  by_cases h : n = 2
  · rw [h]
    decide
  · rw [decide_eq_false h]
    exact decide_eq_false fun z => h (by have := V.int.inj z; omega)
theorem two_of {α : Type} : ∀ {xs : List α}, xs.length = 2 → ∃ x y, xs = [x, y]
  | [x, y], _ => ⟨x, y, rfl⟩
theorem dp_two {H : Hp} {vx vy : V} {ds : List PyData} (h : DpAll K H [vx, vy] ds) : ∃ dx dy, ds = [dx, dy] ∧ Dp K H vx dx ∧ Dp K H vy dy := by
  cases h with
  | cons h1 h2 =>
    cases h2 with
    | cons h3 h4 =>
      cases h4
      exact ⟨_, _, rfl, h1, h3⟩
theorem ok_changeD (T : Txt K mg) (c_is_whole : C8.Cal P w K mg base 1 "is_whole" (spWhole K) []) (c_is_worth : C8.Cal P w K mg base 2 "is_worth" (spWorthD K) [])
    (D : DefAt K mg "_is_change" s__is_change ["thing", "size"]) : C8.Cal P w K mg base 3 "_is_change" (spChangeD K) [] := by
  obtain ⟨f, fd, F, m, b⟩ := D.ex
  refine ⟨f, fd, _, [], F.ok sc__is_change (fun vs H Q E h => ?_) (fun cdv A outer s H vs Q E hr h => ?_), m, F.kp, b, .nil⟩
  · obtain ⟨v, d, size, rfl, _⟩ := h
    rfl
  · obtain ⟨v, d, size, rfl, hd, q⟩ := h
    have ty := tyD hd
    refine ⟨_, (pss_cons (ps_if (PW.pt (pw_or (pt_not (pt_val (pe_callB call_isi (by rfl) T.b_isinstance boot_isinstance_ (pa_cons (pv 0) (pa_cons (pe_bltn (v := .ty "tuple") (by rfl) T.t_tuple boot_tuple_ rfl) pa_nil))))) (pw_or1 (pt_cmpR op_ne (pe_callB call_len (by rfl) T.b_len boot_len_ (pa_cons (pv 0) pa_nil)) pe_int (nomark _)))))
          (pss_one (ps_ret pe_bl)) pss_nil)
      (pss_one (ps_ret (pe_and (C8.pe_c c_is_whole hr (by decide) (by rfl) (pa_cons (pe_ix ix_tup (pv 0) pe_int (fun _ _ => rfl)) (pa_cons pe_int (pa_cons (pe_op op_sub (pv 1) pe_int) pa_nil)))) (pe_one (C8.pe_c c_is_worth hr (by decide) (by rfl) (pa_cons (pe_ix ix_tup (pv 0) pe_int (fun _ _ => rfl)) pa_nil))))))), ?_⟩
    refine ⟨_, rfl, v, .ty "tuple", _, .type "tuple", _, rfl, .ty _, ty, kTup d, _, rfl, ?_⟩
    cases d with
    | tuple ds =>
      obtain ⟨a, xs, rfl, hT, hds⟩ := d1Tup hd
      have hlen := dpLen hds
      refine iteF ⟨_, rfl, .ref a, xs.length, rfl, .inr ⟨_, hT, rfl⟩, rfl, _, rfl, ?_⟩
      rw [len_test]
      by_cases hl : xs.length = 2
      · rw [decide_eq_true hl]
        refine iteF ?_
        obtain ⟨vx, vy, rfl⟩ := two_of hl
        obtain ⟨dx, dy, rfl, hx, hy⟩ := dp_two hds
        have g0 : atI [vx, vy] (0 : Int) = some vx := rfl
        have g1 : atI [vx, vy] (1 : Int) = some vy := rfl
        refine ⟨_, rfl, a, [vx, vy], 0, vx, rfl, rfl, hT, g0, ?_⟩
        refine ⟨_, rfl, _, _, rfl, rfl, vx, dx, _, _, rfl, .dp hx, _, rfl, ?_⟩
        have e : changeD (.tuple [dx, dy]) size = (wholeD dx 0 (size - 1) && worthD dy) := rfl
        rw [e] at q
        cases hw : wholeD dx 0 (size - 1) with
        | true =>
          rw [hw] at q
          refine iteT ?_
          refine ⟨_, rfl, a, [vx, vy], 1, vy, rfl, rfl, hT, g1, ?_⟩
          exact ⟨vy, dy, rfl, .dp hy, q⟩
        | false =>
          rw [hw] at q
          exact iteF q
      · rw [decide_eq_false hl]
        refine iteT ?_
        have e : changeD (.tuple ds) size = false := by
          match ds, hlen with
          | [], _ => rfl
          | [x], _ => rfl
          | [x, y], h => exact absurd h hl
          | x :: y :: z :: r, _ => rfl
        rw [e] at q
        exact q
    | int x => exact iteT (iteT q)
    | bool x => exact iteT (iteT q)
    | none => exact iteT (iteT q)
    | str x => exact iteT (iteT q)
    | list x => exact iteT (iteT q)
    | dict x => exact iteT (iteT q)
def spChangesD (K : PySem.W.Frag) : Sp := fun vs H Q _ => ∃ (v : V) (d : PyData) (size : Int), vs = [v, .int size] ∧ D1 K H v d ∧ ∀ H', Same H H' → Q (.bl (changesD d size)) H'
theorem not_seq {d : PyData} {size : Int} (h : isSeqD d = false) : changesD d size = false := by
  cases d
  all_goals first
    | rfl
    | cases h
theorem seq_of {d : PyData} (h : isSeqD d = true) : (∃ ds, d = .list ds) ∨ ∃ ds, d = .tuple ds := by
  cases d
  all_goals first
    | exact .inl ⟨_, rfl⟩
    | exact .inr ⟨_, rfl⟩
    | cases h
def chs (ds : List PyData) (size : Int) : Bool := decide (ds.length ≤ 20) && ds.all fun d => changeD d size
theorem chs_long {ds : List PyData} {size : Int} (h : ¬ ds.length ≤ 20) : chs ds size = false := by
  unfold chs
  rw [decide_eq_false h, Bool.false_and]
theorem chs_all {ds : List PyData} {size : Int} (h : ds.length ≤ 20) : chs ds size = ds.all fun d => changeD d size := by
  unfold chs
  rw [decide_eq_true h, Bool.true_and]
theorem take_map {ds : List PyData} {size : Int} {i : Nat} {d : PyData} (h : ds[i]? = some d) :
    (ds.take (i + 1)).map (fun d => V.bl (changeD d size)) = (ds.take i).map (fun d => V.bl (changeD d size)) ++ [V.bl (changeD d size)] := by
  rw [List.take_add_one, h, List.map_append]
  rfl
theorem ok_changesD (T : Txt K mg) (c__is_change : C8.Cal P w K mg base 3 "_is_change" (spChangeD K) []) (D : DefAt K mg "is_changes" s_is_changes ["thing", "size"]) :
    C8.Cal P w K mg base 4 "is_changes" (spChangesD K) [] := by
  obtain ⟨f, fd, F, m, b⟩ := D.ex
  refine ⟨f, fd, _, [], F.ok sc_is_changes (fun vs H Q E h => ?_) (fun cdv A outer s H vs Q E hr h => ?_), m, F.kp, b, .nil⟩
  · obtain ⟨v, d, size, rfl, _⟩ := h
    rfl
  · obtain ⟨v, d, size, rfl, hd, q⟩ := h
    cases hs : isSeqD d with
    | false =>
      refine ⟨_, (pss_cons (ps_if (PW.pt (pw_or (pt_not (pt_val (pe_callB call_isiT (by rfl) T.b_isinstance boot_isinstance_ (pa_cons (pv 0) (pa_cons (pe_tup (pa_cons (pe_bltn (v := .ty "list") (by rfl) T.t_list boot_list_ rfl) (pa_cons (pe_bltn (v := .ty "tuple") (by rfl) T.t_tuple boot_tuple_ rfl) pa_nil))) pa_nil))))) (pw_or1 (pt_cmpR op_gt (pe_callB call_len (by rfl) T.b_len boot_len_ (pa_cons (pv 0) pa_nil)) (pe_gi rfl T.g_MOST_CHANGES) (nomark _)))))
          (pss_one (ps_ret pe_bl)) pss_nil)
      (pss_one (ps_ret (pe_callB (cr_all rfl) (by rfl) T.b_all boot_all_ (pa_cons (pe_lc (own := [("change", 2)]) (g := gName 2) (tt := tYes) rfl sc_is_changes.nd (pi_list (pv 0)) (blkOk_by (own := [("change", 2)]) (N := ["thing", "size", "change"]) (sc := defScope s_is_changes) (by decide +kernel)) (fun _ _ _ _ _ => pg_name (i := 2) sc_is_changes.nd rfl (Or.inl rfl)) (fun _ _ _ _ _ => pts_nil) (fun _ _ _ _ _ => (C8.pe_c c__is_change hr (by decide) (by rfl) (pa_cons (pv 2) (pa_cons (pv 1) pa_nil))))) pa_nil))))), ?_⟩
      refine ⟨_, rfl, (by show 2 ≤ sizeLine; decide), fun p hp => ?_⟩
      have sm : Same H (upd H p (.tup [.ty "list", .ty "tuple"])) := same_new hp
      have ks := kSeq (K := K) d
      rw [hs] at ks
      have z := q _ sm
      rw [not_seq hs] at z
      exact ⟨v, p, _, _, _, false, rfl, upd_same, clsSeq, tyD (d1Same sm hd), ks, _, rfl, iteT (iteT z)⟩
    | true =>
      rcases seq_of hs with ⟨ds, rfl⟩ | ⟨ds, rfl⟩
      · obtain ⟨a, xs, rfl, hL, hds⟩ := d1Lst hd
        have q : ∀ H', Same H H' → Q (.bl (chs ds size)) H' := q
        refine ⟨_, (pss_cons (ps_if (PW.pt (pw_or (pt_not (pt_val (pe_callB call_isiT (by rfl) T.b_isinstance boot_isinstance_ (pa_cons (pv 0) (pa_cons (pe_tup (pa_cons (pe_bltn (v := .ty "list") (by rfl) T.t_list boot_list_ rfl) (pa_cons (pe_bltn (v := .ty "tuple") (by rfl) T.t_tuple boot_tuple_ rfl) pa_nil))) pa_nil))))) (pw_or1 (pt_cmpR op_gt (pe_callB call_len (by rfl) T.b_len boot_len_ (pa_cons (pv 0) pa_nil)) (pe_gi rfl T.g_MOST_CHANGES) (nomark _)))))
          (pss_one (ps_ret pe_bl)) pss_nil)
      (pss_one (ps_ret (pe_callB (cr_all rfl) (by rfl) T.b_all boot_all_ (pa_cons (pe_lc (own := [("change", 2)]) (g := gName 2) (tt := tYes) rfl sc_is_changes.nd (pi_list (pv 0)) (blkOk_by (own := [("change", 2)]) (N := ["thing", "size", "change"]) (sc := defScope s_is_changes) (by decide +kernel)) (fun _ _ _ _ _ => pg_name (i := 2) sc_is_changes.nd rfl (Or.inl rfl)) (fun _ _ _ _ _ => pts_nil) (fun _ _ _ _ _ => (C8.pe_c c__is_change hr (by decide) (by rfl) (pa_cons (pv 2) (pa_cons (pv 1) pa_nil))))) pa_nil))))), ?_⟩
        refine ⟨_, rfl, (by show 2 ≤ sizeLine; decide), fun p hp => ?_⟩
        have sm : Same H (upd H p (.tup [.ty "list", .ty "tuple"])) := same_new hp
        have hp1 : (upd H p (.tup [.ty "list", .ty "tuple"])) p = some (.tup [.ty "list", .ty "tuple"]) := upd_same
        generalize upd H p (.tup [.ty "list", .ty "tuple"]) = H1 at *
        have hL1 := Same.seq sm hL
        have ks := kSeq (K := K) (.list ds)
        have ty := tyD (d1Same sm hd)
        have len := dpLen hds
        refine ⟨_, p, _, _, _, true, rfl, hp1, clsSeq, ty, ks, _, rfl, iteF ?_⟩
        refine ⟨_, rfl, .ref a, xs.length, rfl, .inl ⟨_, hL1, rfl⟩, _, _, rfl, rfl, _, rfl, ?_⟩
        by_cases h2 : ds.length ≤ 20
        · have d2 : decide (((xs.length : Nat) : Int) > 20) = false := decide_eq_false (by omega)
          rw [d2]
          refine iteF ?_
          refine ⟨_, rfl, a, rfl, ⟨_, hL1⟩, fun D hD => ?_⟩
          refine lc_list (K := K) (a := a) (xs := xs) (fun i H' => Same H1 H' ∧ H' D = some (.lst ((ds.take i).map fun d => V.bl (changeD d size)))) ⟨same_new hD, upd_same⟩
            (fun i H' _ hP => Same.seq hP.1 hL1) (fun i x H' hi hP => ?_) (fun H' hP => ?_)
          · obtain ⟨dx, hdx, hx⟩ := dpGet hds hi
            refine ⟨rfl, ?_⟩
            refine ⟨x, rfl, _, rfl, x, dx, size, rfl, .dp (dpSame (sm.trans hP.1) hx), _, hP.2, ?_, ?_, ?_⟩
            · rw [List.length_map, List.length_take]
              exact Nat.lt_of_le_of_lt (Nat.min_le_right _ _) (small1000 (by omega))
            · intro c o hc
              have h3 := hP.1 c o hc
              rw [upd_ne (ne_of_none hc hD)]
              exact h3
            · rw [upd_same, take_map hdx]
          · have hD2 := hP.2
            have e3 : ds.take xs.length = ds := List.take_of_length_le (by omega)
            have e4 : (ds.map fun d => V.bl (changeD d size)) = (ds.map fun d => changeD d size).map V.bl := by
              rw [List.map_map]
              rfl
            rw [e3, e4] at hD2
            refine ⟨D, ds.map (fun d => changeD d size), rfl, SqL.of hD2, ?_⟩
            have e : (ds.map fun d => changeD d size).all id = chs ds size := by
              rw [chs_all h2, List.all_map]
              rfl
            rw [e]
            exact q _ (sm.trans hP.1)
        · have d2 : decide (((xs.length : Nat) : Int) > 20) = true := decide_eq_true (by omega)
          rw [d2]
          refine iteT ?_
          have z := q _ sm
          rw [chs_long h2] at z
          exact z
      · obtain ⟨a, xs, rfl, hL, hds⟩ := d1Tup hd
        have q : ∀ H', Same H H' → Q (.bl (chs ds size)) H' := q
        refine ⟨_, (pss_cons (ps_if (PW.pt (pw_or (pt_not (pt_val (pe_callB call_isiT (by rfl) T.b_isinstance boot_isinstance_ (pa_cons (pv 0) (pa_cons (pe_tup (pa_cons (pe_bltn (v := .ty "list") (by rfl) T.t_list boot_list_ rfl) (pa_cons (pe_bltn (v := .ty "tuple") (by rfl) T.t_tuple boot_tuple_ rfl) pa_nil))) pa_nil))))) (pw_or1 (pt_cmpR op_gt (pe_callB call_len (by rfl) T.b_len boot_len_ (pa_cons (pv 0) pa_nil)) (pe_gi rfl T.g_MOST_CHANGES) (nomark _)))))
          (pss_one (ps_ret pe_bl)) pss_nil)
      (pss_one (ps_ret (pe_callB (cr_all rfl) (by rfl) T.b_all boot_all_ (pa_cons (pe_lc (own := [("change", 2)]) (g := gName 2) (tt := tYes) rfl sc_is_changes.nd (pi_tup (pv 0)) (blkOk_by (own := [("change", 2)]) (N := ["thing", "size", "change"]) (sc := defScope s_is_changes) (by decide +kernel)) (fun _ _ _ _ _ => pg_name (i := 2) sc_is_changes.nd rfl (Or.inl rfl)) (fun _ _ _ _ _ => pts_nil) (fun _ _ _ _ _ => (C8.pe_c c__is_change hr (by decide) (by rfl) (pa_cons (pv 2) (pa_cons (pv 1) pa_nil))))) pa_nil))))), ?_⟩
        refine ⟨_, rfl, (by show 2 ≤ sizeLine; decide), fun p hp => ?_⟩
        have sm : Same H (upd H p (.tup [.ty "list", .ty "tuple"])) := same_new hp
        have hp1 : (upd H p (.tup [.ty "list", .ty "tuple"])) p = some (.tup [.ty "list", .ty "tuple"]) := upd_same
        generalize upd H p (.tup [.ty "list", .ty "tuple"]) = H1 at *
        have hL1 := same_sqT sm hL
        have ks := kSeq (K := K) (.tuple ds)
        have ty := tyD (d1Same sm hd)
        have len := dpLen hds
        refine ⟨_, p, _, _, _, true, rfl, hp1, clsSeq, ty, ks, _, rfl, iteF ?_⟩
        refine ⟨_, rfl, .ref a, xs.length, rfl, .inr ⟨_, hL1, rfl⟩, _, _, rfl, rfl, _, rfl, ?_⟩
        by_cases h2 : ds.length ≤ 20
        · have d2 : decide (((xs.length : Nat) : Int) > 20) = false := decide_eq_false (by omega)
          rw [d2]
          refine iteF ?_
          refine ⟨_, rfl, a, rfl, ⟨_, hL1⟩, fun D hD => ?_⟩
          refine lc_tup (K := K) (a := a) (xs := xs) (fun i H' => Same H1 H' ∧ H' D = some (.lst ((ds.take i).map fun d => V.bl (changeD d size)))) ⟨same_new hD, upd_same⟩
            (fun i H' _ hP => same_sqT hP.1 hL1) (fun i x H' hi hP => ?_) (fun H' hP => ?_)
          · obtain ⟨dx, hdx, hx⟩ := dpGet hds hi
            refine ⟨rfl, ?_⟩
            refine ⟨x, rfl, _, rfl, x, dx, size, rfl, .dp (dpSame (sm.trans hP.1) hx), _, hP.2, ?_, ?_, ?_⟩
            · rw [List.length_map, List.length_take]
              exact Nat.lt_of_le_of_lt (Nat.min_le_right _ _) (small1000 (by omega))
            · intro c o hc
              have h3 := hP.1 c o hc
              rw [upd_ne (ne_of_none hc hD)]
              exact h3
            · rw [upd_same, take_map hdx]
          · have hD2 := hP.2
            have e3 : ds.take xs.length = ds := List.take_of_length_le (by omega)
            have e4 : (ds.map fun d => V.bl (changeD d size)) = (ds.map fun d => changeD d size).map V.bl := by
              rw [List.map_map]
              rfl
            rw [e3, e4] at hD2
            refine ⟨D, ds.map (fun d => changeD d size), rfl, SqL.of hD2, ?_⟩
            have e : (ds.map fun d => changeD d size).all id = chs ds size := by
              rw [chs_all h2, List.all_map]
              rfl
            rw [e]
            exact q _ (sm.trans hP.1)
        · have d2 : decide (((xs.length : Nat) : Int) > 20) = true := decide_eq_true (by omega)
          rw [d2]
          refine iteT ?_
          have z := q _ sm
          rw [chs_long h2] at z
          exact z

end
end K41
namespace K41
open PySem PySem.Spec PyProof.Rows L2 Gd Gs Gx Ge
open NdefX (NScope nscope_by ncx startF NF)
open C8 (clsBody Met pe_mt pe_mt0)
/-- how put is refused -/
def PutK (K : PySem.W.Frag) (H : Hp) (CN : Addr) (n : Nat) (ow ks : List Nat) (things : List V) (C : Addr) (fs : List (Str × V)) (vals : List V) : Prop := ∃ (v u u2 : V) (d : PyData), things = [v, u, u2] ∧ (∀ H', Same H H' → D1 K H' v d) ∧ NoK ow ks d ∧ CN = C ∧ fs = [(("found" : Str), v)] ∧ vals = [.str "make", v]
def PutP (K : PySem.W.Frag) (H : Hp) (CP : Addr) (n : Nat) (ow ks : List Nat) (things : List V) (C : Addr) (fs : List (Str × V)) (vals : List V) : Prop := ∃ (i : Nat) (v u : V) (d : PyData), things = [num i, v, u] ∧ i ≤ ow.length ∧ i ∈ ks ∧ (∀ H', Same H H' → D1 K H' v d) ∧ wholeD d 0 ((n : Nat) - 1 : Int) = false ∧ CP = C ∧ fs = [(("found" : Str), v)] ∧ vals = [.str "place", v]
def PutW (K : PySem.W.Frag) (H : Hp) (CW : Addr) (n : Nat) (ow ks : List Nat) (things : List V) (C : Addr) (fs : List (Str × V)) (vals : List V) : Prop := ∃ (i j : Nat) (v : V) (d : PyData), things = [num i, num j, v] ∧ i ≤ ow.length ∧ i ∈ ks ∧ j < n ∧ (∀ H', Same H H' → D1 K H' v d) ∧ worthD d = false ∧ CW = C ∧ fs = [(("found" : Str), v)] ∧ vals = [.str "worth", v]
def PutE (K : PySem.W.Frag) (H : Hp) (CA : Addr) (n : Nat) (ow ks : List Nat) (things : List V) (C : Addr) (fs : List (Str × V)) (vals : List V) : Prop := ∃ (i j : Nat) (x : Int), things = [num i, num j, .int x] ∧ i ≤ ow.length ∧ i ∈ ks ∧ j < n ∧ -big30 ≤ x ∧ x ≤ big30 ∧ i ≠ ow.length ∧ CA = C ∧ fs = [(("found" : Str), num i)] ∧ vals = [.str "elder", num i]
def PutM (K : PySem.W.Frag) (H : Hp) (CM : Addr) (n : Nat) (ow ks : List Nat) (things : List V) (C : Addr) (fs : List (Str × V)) (vals : List V) : Prop := ∃ (j : Nat) (x : Int), things = [num ow.length, num j, .int x] ∧ ow.length ∈ ks ∧ j < n ∧ -big30 ≤ x ∧ x ≤ big30 ∧ 64 < ow.length + 1 + 1 ∧ CM = C ∧ fs = [(("count" : Str), num (ow.length + 1 + 1))] ∧ vals = [.str "many", num (ow.length + 1 + 1)]
def AllC (K : PySem.W.Frag) (H : Hp) (CG : Addr) (n : Nat) (ow ks : List Nat) (things : List V) (C : Addr) (fs : List (Str × V)) (vals : List V) : Prop := ∃ (i : Nat) (v : V) (d : PyData), things = [num i, v] ∧ i ≤ ow.length ∧ i ∈ ks ∧ (∀ H', Same H H' → D1 K H' v d) ∧ changesD d (n : Nat) = false ∧ CG = C ∧ fs = [(("found" : Str), v)] ∧ vals = [.str "changes", v]
def AllE (K : PySem.W.Frag) (H : Hp) (CA : Addr) (n : Nat) (ow ks : List Nat) (things : List V) (C : Addr) (fs : List (Str × V)) (vals : List V) : Prop := ∃ (i : Nat) (a : Addr) (xs : List V) (cs : List (Nat × Int)), things = [num i, .ref a] ∧ i ≤ ow.length ∧ i ∈ ks ∧ H a = some (.lst xs) ∧ ChX H xs cs ∧ ChOk cs n ∧ cs.length ≤ 20 ∧ cs ≠ [] ∧ i ≠ ow.length ∧ CA = C ∧ fs = [(("found" : Str), num i)] ∧ vals = [.str "elder", num i]
def AllM (K : PySem.W.Frag) (H : Hp) (CM : Addr) (n : Nat) (ow ks : List Nat) (things : List V) (C : Addr) (fs : List (Str × V)) (vals : List V) : Prop := ∃ (a : Addr) (xs : List V) (cs : List (Nat × Int)), things = [num ow.length, .ref a] ∧ ow.length ∈ ks ∧ H a = some (.lst xs) ∧ ChX H xs cs ∧ ChOk cs n ∧ cs.length ≤ 20 ∧ cs ≠ [] ∧ 64 < ow.length + 1 + cs.length ∧ CM = C ∧ fs = [(("count" : Str), num (ow.length + 1 + cs.length))] ∧ vals = [.str "many", num (ow.length + 1 + cs.length)]
def PutB (K : PySem.W.Frag) (H : Hp) (CA CN CP CW CM : Addr) (n : Nat) (ow ks : List Nat) (things : List V) (C : Addr) (fs : List (Str × V)) (vals : List V) : Prop :=
  PutK K H CN n ow ks things C fs vals ∨ PutP K H CP n ow ks things C fs vals ∨ PutW K H CW n ow ks things C fs vals ∨ PutE K H CA n ow ks things C fs vals ∨ PutM K H CM n ow ks things C fs vals
def AllB (K : PySem.W.Frag) (H : Hp) (CA CG CM : Addr) (n : Nat) (ow ks : List Nat) (things : List V) (C : Addr) (fs : List (Str × V)) (vals : List V) : Prop :=
  AllC K H CG n ow ks things C fs vals ∨ AllE K H CA n ow ks things C fs vals ∨ AllM K H CM n ow ks things C fs vals
theorem worthD_int {x : Int} (h1 : -big30 ≤ x) (h2 : x ≤ big30) : worthD (.int x) = true := by
  show (decide (-big30 ≤ x) && decide (x ≤ big30)) = true
  rw [decide_eq_true h1, decide_eq_true h2]
  rfl
theorem changesD_ok {cs : List (Nat × Int)} {n : Nat} (h : ChOk cs n) (h20 : cs.length ≤ 20) : changesD (.list (cs.map chD)) (n : Nat) = true := by
  show (decide ((cs.map chD).length ≤ 20) && (cs.map chD).all fun d => changeD d (n : Nat)) = true
  rw [decide_eq_true (by rw [List.length_map]; exact h20), Bool.true_and, List.all_eq_true]
  intro d hd
  obtain ⟨c, hc, rfl⟩ := List.mem_map.mp hd
  obtain ⟨b0, b1, b2⟩ := h c hc
  show ((decide ((0 : Int) ≤ ((c.1 : Nat) : Int)) && decide (((c.1 : Nat) : Int) ≤ (n : Nat) - 1)) && worthD (.int c.2)) = true
  rw [worthD_int b1 b2, decide_eq_true (by omega : (0 : Int) ≤ ((c.1 : Nat) : Int)), decide_eq_true (by omega : ((c.1 : Nat) : Int) ≤ (n : Nat) - 1)]
  rfl
section
variable {P : Program} {w : World} {K : PySem.W.Frag} {mg : Str → Option Value} {base : Heap} {C CL CA fA CN fN CP fP CS fS CW fW CG fG CM fM CE : Addr}
theorem PutB.same {H H1 : Hp} {n : Nat} {ow ks : List Nat} {things : List V} {C : Addr} {fs : List (Str × V)} {vals : List V} (s : Same H H1) (h : PutB K H CA CN CP CW CM n ow ks things C fs vals) : PutB K H1 CA CN CP CW CM n ow ks things C fs vals := by
  rcases h with h | h | h | h | h
  · obtain ⟨v, u, u2, d, e1, hd, rest⟩ := h
    exact .inl ⟨v, u, u2, d, e1, fun H' z => hd H' (s.trans z), rest⟩
  · obtain ⟨i, v, u, d, e1, hi, hk, hd, rest⟩ := h
    exact .inr (.inl ⟨i, v, u, d, e1, hi, hk, fun H' z => hd H' (s.trans z), rest⟩)
  · obtain ⟨i, j, v, d, e1, hi, hk, hj, hd, rest⟩ := h
    exact .inr (.inr (.inl ⟨i, j, v, d, e1, hi, hk, hj, fun H' z => hd H' (s.trans z), rest⟩))
  · exact .inr (.inr (.inr (.inl h)))
  · exact .inr (.inr (.inr (.inr (h))))
theorem AllB.same {H H1 : Hp} {n : Nat} {ow ks : List Nat} {things : List V} {C : Addr} {fs : List (Str × V)} {vals : List V} (s : Same H H1) (h : AllB K H CA CG CM n ow ks things C fs vals) : AllB K H1 CA CG CM n ow ks things C fs vals := by
  rcases h with h | h | h
  · obtain ⟨i, v, d, e1, hi, hk, hd, rest⟩ := h
    exact .inl ⟨i, v, d, e1, hi, hk, fun H' z => hd H' (s.trans z), rest⟩
  · obtain ⟨i, a, xs, cs, e1, hi, hk, ea, hx, rest⟩ := h
    exact .inr (.inl ⟨i, a, xs, cs, e1, hi, hk, s _ _ ea, hx.kp (KT.of s), rest⟩)
  · obtain ⟨a, xs, cs, e1, hk, ea, hx, rest⟩ := h
    exact .inr (.inr (⟨a, xs, cs, e1, hk, s _ _ ea, hx.kp (KT.of s), rest⟩))
theorem PutB.rf {H : Hp} {n : Nat} {ow ks : List Nat} {things : List V} {C : Addr} {fs : List (Str × V)} {vals : List V} (h : PutB K H CA CN CP CW CM n ow ks things C fs vals) : Rf CA CN CP CS CW CG CM C fs vals := by
  rcases h with h | h | h | h | h
  · obtain ⟨v, u, u2, d, _, _, _, h1, h2, h3⟩ := h
    exact .inr (.inl ⟨v, h1, h2, h3⟩)
  · obtain ⟨i, v, u, d, _, _, _, _, _, h1, h2, h3⟩ := h
    exact .inr (.inr (.inl ⟨v, h1, h2, h3⟩))
  · obtain ⟨i, j, v, d, _, _, _, _, _, _, h1, h2, h3⟩ := h
    exact .inr (.inr (.inr (.inr (.inl ⟨v, h1, h2, h3⟩))))
  · obtain ⟨i, j, x, _, _, _, _, _, _, _, h1, h2, h3⟩ := h
    exact .inl ⟨num i, h1, h2, h3⟩
  · obtain ⟨j, x, _, _, _, _, _, _, h1, h2, h3⟩ := h
    exact .inr (.inr (.inr (.inr (.inr (.inr (⟨_, h1, h2, h3⟩))))))
theorem AllB.rf {H : Hp} {n : Nat} {ow ks : List Nat} {things : List V} {C : Addr} {fs : List (Str × V)} {vals : List V} (h : AllB K H CA CG CM n ow ks things C fs vals) : Rf CA CN CP CS CW CG CM C fs vals := by
  rcases h with h | h | h
  · obtain ⟨i, v, d, _, _, _, _, _, h1, h2, h3⟩ := h
    exact .inr (.inr (.inr (.inr (.inr (.inl ⟨v, h1, h2, h3⟩)))))
  · obtain ⟨i, a, xs, cs, _, _, _, _, _, _, _, _, _, h1, h2, h3⟩ := h
    exact .inl ⟨num i, h1, h2, h3⟩
  · obtain ⟨a, xs, cs, _, _, _, _, _, _, _, _, h1, h2, h3⟩ := h
    exact .inr (.inr (.inr (.inr (.inr (.inr (⟨_, h1, h2, h3⟩))))))
def spNewE (CX C CL : Addr) : Sp := fun vs H Q E => ∃ (N : Addr → Prop) (o : Addr) (n : Nat) (ow pc ks : List Nat) (st : Int) (fs : List (Str × V)) (i : Nat), vs = [.ref o, num i] ∧ RowB N H o C CL n ow pc ks st fs ∧ i ≠ ow.length ∧ ∀ a, H a = none → E (.ref CX) (some a) (upd H a (.xd [("found", num i)]))
def spRoomM (CX C CL : Addr) : Sp := fun vs H Q E => ∃ (N : Addr → Prop) (o : Addr) (n : Nat) (ow pc ks : List Nat) (st : Int) (fs : List (Str × V)) (j : Nat), vs = [.ref o, num j] ∧ RowB N H o C CL n ow pc ks st fs ∧ 64 < ow.length + 1 + j ∧ ∀ a, H a = none → E (.ref CX) (some a) (upd H a (.xd [("count", num (ow.length + 1 + j))]))
theorem ok_newE (T : Txt K mg) (R : RfT P K mg CA fA CN fN CP fP CS fS CW fW CG fG CM fM CE) (OC : RowC K C) (m_many : Met P w K mg base 1 C "many" (spRMany C CL) []) (M : MAt K C "need_new" "Lined.need_new" s_Lined_need_new ["self", "make"]) : MetX P w K mg base 2 C "need_new" (spNewE CA C CL) := by
  refine M.metX OC.cl sc_Lined_need_new (fun vs H Q E h => ?_) (fun f cdv A outer s H vs Q E hr h => ?_)
  · obtain ⟨N, o, n, ow, pc, ks, st, fs, i, rfl, _⟩ := h
    rfl
  · obtain ⟨N, o, n, ow, pc, ks, st, fs, i, rfl, r, ne, q⟩ := h
    obtain ⟨dx, e1, nl⟩ := r.ins
    refine ⟨_, (pss_one (ps_if (pt_cmpR op_ne (pv 1) (pe_op op_sub (pe_mt0 m_many hr (by decide) (pv 0)) pe_int) (nomark _))
          (pss_one (ps_raiseE rfl R.e_Elder R.g_Elder hr (takes_of rfl rfl rfl rfl) (by exact (pa_cons (pv 1) pa_nil)) (by rfl))) pss_nil)), ?_⟩
    refine ⟨_, rfl, _, rfl, o, dx, fs, rfl, e1, nl _ (by decide), N, o, n, ow, pc, ks, st, fs, rfl, r, _, _, rfl, rfl, rfl, _, rfl, ?_⟩
    rw [decide_eq_false (by show ¬ num i = V.int (((ow.length + 1 : Nat) : Int) - 1); intro z; have := V.int.inj z; omega)]
    exact iteT ⟨_, rfl, _, rfl, q⟩
theorem ok_roomM (T : Txt K mg) (R : RfT P K mg CA fA CN fN CP fP CS fS CW fW CG fG CM fM CE) (OC : RowC K C) (m_many : Met P w K mg base 1 C "many" (spRMany C CL) []) (M : MAt K C "_row_need_room_for" "Rows._row_need_room_for" s_Rows__row_need_room_for ["self", "more"]) : MetX P w K mg base 2 C "_row_need_room_for" (spRoomM CM C CL) := by
  refine M.metX OC.cl sc_Rows__row_need_room_for (fun vs H Q E h => ?_) (fun f cdv A outer s H vs Q E hr h => ?_)
  · obtain ⟨N, o, n, ow, pc, ks, st, fs, j, rfl, _⟩ := h
    rfl
  · obtain ⟨N, o, n, ow, pc, ks, st, fs, j, rfl, r, ne, q⟩ := h
    obtain ⟨dx, e1, nl⟩ := r.ins
    refine ⟨_, (pss_cons (ps_set (i := 2) sc_Rows__row_need_room_for.nd rfl (Or.inl rfl) (pe_op op_add (pe_mt0 m_many hr (by decide) (pv 0)) (pv 1)))
      (pss_one (ps_if (pt_cmpR op_gt (pv 2) (pe_gi rfl T.g_MOST_MAKES) (nomark _))
          (pss_one (Gk.ps_raiseE rfl R.e_TooMany R.g_TooMany hr (takes_of rfl rfl rfl rfl) (by exact (pa_cons (pv 2) pa_nil)) (by rfl))) pss_nil))), ?_⟩
    refine ⟨_, rfl, o, dx, fs, rfl, e1, nl _ (by decide), N, o, n, ow, pc, ks, st, fs, rfl, r, _, rfl, _, _, rfl, rfl, ?_⟩
    refine ⟨_, rfl, _, _, rfl, rfl, _, rfl, ?_⟩
    rw [decide_eq_true (show ((ow.length + 1 : Nat) : Int) + ((j : Nat) : Int) > 64 by omega)]
    exact iteT ⟨_, rfl, _, rfl, q⟩
def spPutB (K : PySem.W.Frag) (CA CN CP CW CM C CL : Addr) : Sp := fun vs H Q E => ∃ (N : Addr → Prop) (o : Addr) (n : Nat) (ow pc ks : List Nat) (st : Int) (fs : List (Str × V)) (things : List V) (CX : Addr) (xf : List (Str × V)) (vals : List V), vs = .ref o :: things ∧ RowB N H o C CL n ow pc ks st fs ∧ PutB K H CA CN CP CW CM n ow ks things CX xf vals ∧ ∀ a, H a = none → E (.ref CX) (some a) (upd H a (.xd xf))
def spAllB (K : PySem.W.Frag) (CA CG CM C CL : Addr) : Sp := fun vs H Q E => ∃ (N : Addr → Prop) (o : Addr) (n : Nat) (ow pc ks : List Nat) (st : Int) (fs : List (Str × V)) (things : List V) (CX : Addr) (xf : List (Str × V)) (vals : List V), vs = .ref o :: things ∧ RowB N H o C CL n ow pc ks st fs ∧ AllB K H CA CG CM n ow ks things CX xf vals ∧ ∀ H1 a, Same H H1 → H1 a = none → E (.ref CX) (some a) (upd H1 a (.xd xf))
def spAllE (K : PySem.W.Frag) (C CL : Addr) : Sp := fun vs H Q _ => ∃ (N : Addr → Prop) (o : Addr) (n : Nat) (ow pc ks : List Nat) (st : Int) (fs : List (Str × V)) (i : Nat) (a : Addr), vs = [.ref o, num i, .ref a] ∧ RowB N H o C CL n ow pc ks st fs ∧ i ≤ ow.length ∧ i ∈ ks ∧ (H a = some (.lst []) ∨ H a = some (.tup [])) ∧ ∀ (l : Addr) (H' : Hp), H l = none → H' l = some (.lst []) → Same H H' → Q (.ref l) H'
theorem fn_putB {f : Addr} {fd : FuncData} (T : Txt K mg) (R : RfT P K mg CA fA CN fN CP fP CS fS CW fW CG fG CM fM CE) (OC : RowC K C) (c_is_worth : C8.Cal P w K mg base 2 "is_worth" (spWorthD K) []) (m_need_make : Met P w K mg base 2 C "need_make" (spNeedMk C CL) []) (x_need : MetX P w K mg base 2 C "need_make" (spNk K CN C CL)) (m_need_place : Met P w K mg base 2 C "need_place" (spNeedPl C CL) []) (x_place : MetX P w K mg base 2 C "need_place" (spNp K CP C CL)) (m_need_new : Met P w K mg base 2 C "need_new" (spNewL C CL) []) (x_new : MetX P w K mg base 2 C "need_new" (spNewE CA C CL)) (m__row_need_room_for : Met P w K mg base 2 C "_row_need_room_for" (spRoom C CL) []) (x_room : MetX P w K mg base 2 C "_row_need_room_for" (spRoomM CM C CL)) (m__row_put : Met P w K mg base 21 C "_row_put" (spRPutA C CL) [])
    (F : Fun K "put" "Rows.put" s_Rows_put f fd) : FnOk P w K mg base (L2.CX P w) 22 f fd ["self", "make", "place", "worth"] (spPutB K CA CN CP CW CM C CL) := by
  refine F.okX sc_Rows_put (fun vs H Q E h => ?_) (fun cdv A outer s H vs Q E hr h => ?_)
  · obtain ⟨N, o, n, ow, pc, ks, st, fs, things, CX, xf, vals, rfl, _, h, _⟩ := h
    rcases h with ⟨v, u, u2, d, rfl, _⟩ | ⟨i, v, u, d, rfl, _⟩ | ⟨i, j, v, d, rfl, _⟩ | ⟨i, j, x, rfl, _⟩ | ⟨j, x, rfl, _⟩ <;> rfl
  · obtain ⟨N, o, n, ow, pc, ks, st, fs, things, CX, xf, vals, rfl, r, h, q⟩ := h
    obtain ⟨dx, e1, nl⟩ := r.ins
    have s0 : Same H H := fun _ _ z => z
    have f0 := nl
    rcases h with ⟨v, u, u2, d, rfl, hd, bad, rfl, rfl, rfl⟩ | ⟨i, v, u, d, rfl, hi, hk, hd, bad, rfl, rfl, rfl⟩ | ⟨i, j, v, d, rfl, hi, hk, hj, hd, bad, rfl, rfl, rfl⟩ | ⟨i, j, x, rfl, hi, hk, hj, b1, b2, ne, rfl, rfl, rfl⟩ | ⟨j, x, rfl, hk, hj, b1, b2, hm, rfl, rfl, rfl⟩
    · refine ⟨_, (pss_cons (ps_expr (pe_mtX x_need hr (by decide) (takes_of rfl rfl rfl rfl) (pv 0) (pa_cons (pv 1) pa_nil)))
      (pss_cons (ps_expr (pe_mt m_need_place hr (by decide) (pv 0) (pa_cons (pv 2) pa_nil)))
      (pss_cons (ps_if (pt_not (pt_val (C8.pe_c c_is_worth hr (by decide) (by rfl) (pa_cons (pv 3) pa_nil))))
          (pss_one ps_never) pss_nil)
      (pss_cons (ps_expr (pe_mt m_need_new hr (by decide) (pv 0) (pa_cons (pv 1) pa_nil)))
      (pss_cons (ps_expr (pe_mt m__row_need_room_for hr (by decide) (pv 0) (pa_cons pe_int pa_nil)))
      (pss_one (ps_ret (pe_mt m__row_put hr (by decide) (pv 0) (pa_cons (pv 1) (pa_cons (pv 2) (pa_cons (pv 3) pa_nil))))))))))), ?_⟩
      exact ⟨_, rfl, o, dx, fs, rfl, e1, nl _ (by decide), _, rfl, N, o, n, ow, pc, ks, st, fs, v, d, rfl, r, hd _ s0, bad, q⟩
    · refine ⟨_, (pss_cons (ps_expr (pe_mt m_need_make hr (by decide) (pv 0) (pa_cons (pv 1) pa_nil)))
      (pss_cons (ps_expr (pe_mtX x_place hr (by decide) (takes_of rfl rfl rfl rfl) (pv 0) (pa_cons (pv 2) pa_nil)))
      (pss_cons (ps_if (pt_not (pt_val (C8.pe_c c_is_worth hr (by decide) (by rfl) (pa_cons (pv 3) pa_nil))))
          (pss_one ps_never) pss_nil)
      (pss_cons (ps_expr (pe_mt m_need_new hr (by decide) (pv 0) (pa_cons (pv 1) pa_nil)))
      (pss_cons (ps_expr (pe_mt m__row_need_room_for hr (by decide) (pv 0) (pa_cons pe_int pa_nil)))
      (pss_one (ps_ret (pe_mt m__row_put hr (by decide) (pv 0) (pa_cons (pv 1) (pa_cons (pv 2) (pa_cons (pv 3) pa_nil))))))))))), ?_⟩
      refine ⟨_, rfl, o, dx, fs, rfl, e1, nl _ (by decide), _, rfl, N, o, n, ow, pc, ks, st, fs, i, rfl, r, hi, hk, ?_⟩
      exact ⟨_, rfl, o, dx, fs, rfl, e1, nl _ (by decide), _, rfl, N, o, n, ow, pc, ks, st, fs, v, d, rfl, r, hd _ s0, bad, q⟩
    · refine ⟨_, (pss_cons (ps_expr (pe_mt m_need_make hr (by decide) (pv 0) (pa_cons (pv 1) pa_nil)))
      (pss_cons (ps_expr (pe_mt m_need_place hr (by decide) (pv 0) (pa_cons (pv 2) pa_nil)))
      (pss_cons (ps_if (pt_not (pt_val (C8.pe_c c_is_worth hr (by decide) (by rfl) (pa_cons (pv 3) pa_nil))))
          (pss_one (ps_raiseE rfl R.e_NoWorth R.g_NoWorth hr (takes_of rfl rfl rfl rfl) (by exact (pa_cons (pv 3) pa_nil)) (by rfl))) pss_nil)
      (pss_cons (ps_expr (pe_mt m_need_new hr (by decide) (pv 0) (pa_cons (pv 1) pa_nil)))
      (pss_cons (ps_expr (pe_mt m__row_need_room_for hr (by decide) (pv 0) (pa_cons pe_int pa_nil)))
      (pss_one (ps_ret (pe_mt m__row_put hr (by decide) (pv 0) (pa_cons (pv 1) (pa_cons (pv 2) (pa_cons (pv 3) pa_nil))))))))))), ?_⟩
      refine ⟨_, rfl, o, dx, fs, rfl, e1, nl _ (by decide), _, rfl, N, o, n, ow, pc, ks, st, fs, i, rfl, r, hi, hk, ?_⟩
      refine ⟨_, rfl, o, dx, fs, rfl, e1, nl _ (by decide), _, rfl, N, o, n, ow, pc, ks, st, fs, j, rfl, r, hj, ?_⟩
      refine ⟨_, rfl, v, d, rfl, hd _ s0, ?_⟩
      rw [bad]
      exact ⟨_, rfl, iteT ⟨_, rfl, _, rfl, q⟩⟩
    · refine ⟨_, (pss_cons (ps_expr (pe_mt m_need_make hr (by decide) (pv 0) (pa_cons (pv 1) pa_nil)))
      (pss_cons (ps_expr (pe_mt m_need_place hr (by decide) (pv 0) (pa_cons (pv 2) pa_nil)))
      (pss_cons (ps_if (pt_not (pt_val (C8.pe_c c_is_worth hr (by decide) (by rfl) (pa_cons (pv 3) pa_nil))))
          (pss_one ps_never) pss_nil)
      (pss_cons (ps_expr (pe_mtX x_new hr (by decide) (takes_of rfl rfl rfl rfl) (pv 0) (pa_cons (pv 1) pa_nil)))
      (pss_cons (ps_expr (pe_mt m__row_need_room_for hr (by decide) (pv 0) (pa_cons pe_int pa_nil)))
      (pss_one (ps_ret (pe_mt m__row_put hr (by decide) (pv 0) (pa_cons (pv 1) (pa_cons (pv 2) (pa_cons (pv 3) pa_nil))))))))))), ?_⟩
      refine ⟨_, rfl, o, dx, fs, rfl, e1, nl _ (by decide), _, rfl, N, o, n, ow, pc, ks, st, fs, i, rfl, r, hi, hk, ?_⟩
      refine ⟨_, rfl, o, dx, fs, rfl, e1, nl _ (by decide), _, rfl, N, o, n, ow, pc, ks, st, fs, j, rfl, r, hj, ?_⟩
      refine ⟨_, rfl, .int x, .int x, rfl, .dp (.int _), ?_⟩
      rw [worthD_int b1 b2]
      refine ⟨_, rfl, iteF ?_⟩
      exact ⟨_, rfl, o, dx, fs, rfl, e1, nl _ (by decide), _, rfl, N, o, n, ow, pc, ks, st, fs, i, rfl, r, ne, q⟩
    · refine ⟨_, (pss_cons (ps_expr (pe_mt m_need_make hr (by decide) (pv 0) (pa_cons (pv 1) pa_nil)))
      (pss_cons (ps_expr (pe_mt m_need_place hr (by decide) (pv 0) (pa_cons (pv 2) pa_nil)))
      (pss_cons (ps_if (pt_not (pt_val (C8.pe_c c_is_worth hr (by decide) (by rfl) (pa_cons (pv 3) pa_nil))))
          (pss_one ps_never) pss_nil)
      (pss_cons (ps_expr (pe_mt m_need_new hr (by decide) (pv 0) (pa_cons (pv 1) pa_nil)))
      (pss_cons (ps_expr (pe_mtX x_room hr (by decide) (takes_of rfl rfl rfl rfl) (pv 0) (pa_cons pe_int pa_nil)))
      (pss_one (ps_ret (pe_mt m__row_put hr (by decide) (pv 0) (pa_cons (pv 1) (pa_cons (pv 2) (pa_cons (pv 3) pa_nil))))))))))), ?_⟩
      refine ⟨_, rfl, o, dx, fs, rfl, e1, nl _ (by decide), _, rfl, N, o, n, ow, pc, ks, st, fs, ow.length, rfl, r, Nat.le_refl _, hk, ?_⟩
      refine ⟨_, rfl, o, dx, fs, rfl, e1, nl _ (by decide), _, rfl, N, o, n, ow, pc, ks, st, fs, j, rfl, r, hj, ?_⟩
      refine ⟨_, rfl, .int x, .int x, rfl, .dp (.int _), ?_⟩
      rw [worthD_int b1 b2]
      refine ⟨_, rfl, iteF ?_⟩
      refine ⟨_, rfl, o, dx, fs, rfl, e1, nl _ (by decide), _, rfl, N, o, n, ow, pc, ks, st, fs, rfl, r, ?_⟩
      exact ⟨_, rfl, o, dx, fs, rfl, e1, nl _ (by decide), N, o, n, ow, pc, ks, st, fs, 1, rfl, r, hm, q⟩
theorem ok_putB {g : Addr} {fd : FuncData} (OC : RowC K C) (F : FnOk P w K mg base (L2.CX P w) 22 g fd ["self", "make", "place", "worth"] (spPutB K CA CN CP CW CM C CL)) (hb : Binds K fd ["self", "make", "place", "worth"] []) (S : SAt P K C "put" "Lined.put" s_Lined_put ["self", "make", "place", "worth"] g) : MetX P w K mg base 23 C "put" (spPutB K CA CN CP CW CM C CL) := by
  obtain ⟨f, cc, c, oc, od, doc, pm, an, ct, osl, sup, lk, me, bi⟩ := S.ex
  refine ⟨f, _, _, OC.cl, me, ?_, bi⟩
  refine okS_ret sup lk ns_put rfl (fun vs H Q E h => ?_) rfl F hb (by rfl) (fun L => by rfl) (fun L => by rfl) (fun L => by rfl) ?_
  · obtain ⟨N, o, n, ow, pc, ks, st, fs, things, CX, xf, vals, rfl, _, h, _⟩ := h
    rcases h with ⟨v, u, u2, d, rfl, _⟩ | ⟨i, v, u, d, rfl, _⟩ | ⟨i, j, v, d, rfl, _⟩ | ⟨i, j, x, rfl, _⟩ | ⟨j, x, rfl, _⟩ <;> rfl
  · rintro A outer s H vs Q E hr ⟨N, o, n, ow, pc, ks, st, fs, things, CX, xf, vals, rfl, r, h, q⟩
    obtain ⟨dx, e1, nl⟩ := r.ins
    obtain ⟨t1, t2, t3, rfl⟩ : ∃ t1 t2 t3, things = [t1, t2, t3] := by
      rcases h with ⟨v, u, u2, d, rfl, _⟩ | ⟨i, v, u, d, rfl, _⟩ | ⟨i, j, v, d, rfl, _⟩ | ⟨i, j, x, rfl, _⟩ | ⟨j, x, rfl, _⟩ <;> exact ⟨_, _, _, rfl⟩
    exact ⟨o, dx, fs, E, _, rfl, e1, passes_call (takes_of rfl rfl rfl rfl) (fun _ _ _ _ h => h), (pa_cons (pv 1) (pa_cons (pv 2) (pa_cons (pv 3) pa_nil))), _, rfl, _, rfl, _, rfl, N, o, n, ow, pc, ks, st, fs, [t1, t2, t3], CX, xf, vals, rfl, r, h, q⟩
theorem fn_allB {f : Addr} {fd : FuncData} (T : Txt K mg) (R : RfT P K mg CA fA CN fN CP fP CS fS CW fW CG fG CM fM CE) (OC : RowC K C) (c_is_changes : C8.Cal P w K mg base 4 "is_changes" (spChangesD K) []) (m_need_make : Met P w K mg base 2 C "need_make" (spNeedMk C CL) []) (m_size : Met P w K mg base 1 C "size" (spSize C CL) []) (m_need_new : Met P w K mg base 2 C "need_new" (spNewL C CL) []) (x_new : MetX P w K mg base 2 C "need_new" (spNewE CA C CL)) (m__row_need_room_for : Met P w K mg base 2 C "_row_need_room_for" (spRoom C CL) []) (x_room : MetX P w K mg base 2 C "_row_need_room_for" (spRoomM CM C CL)) (m__row_put : Met P w K mg base 21 C "_row_put" (spRPutA C CL) [])
    (F : Fun K "put_all" "Rows.put_all" s_Rows_put_all f fd) : FnOk P w K mg base (L2.CX P w) 22 f fd ["self", "make", "changes"] (spAllB K CA CG CM C CL) := by
  refine F.okX sc_Rows_put_all (fun vs H Q E h => ?_) (fun cdv A outer s H vs Q E hr h => ?_)
  · obtain ⟨N, o, n, ow, pc, ks, st, fs, things, CX, xf, vals, rfl, _, h, _⟩ := h
    rcases h with ⟨i, v, d, rfl, _⟩ | ⟨i, a, xs, cs, rfl, _⟩ | ⟨a, xs, cs, rfl, _⟩ <;> rfl
  · obtain ⟨N, o, n, ow, pc, ks, st, fs, things, CX, xf, vals, rfl, r, h, q⟩ := h
    obtain ⟨dx, e1, nl⟩ := r.ins
    have s0 : Same H H := fun _ _ z => z
    rcases h with ⟨i, v, d, rfl, hi, hk, hd, bad, rfl, rfl, rfl⟩ | ⟨i, a, xs, cs, rfl, hi, hk, ea, hx, hok, h20, hne, ne, rfl, rfl, rfl⟩ | ⟨a, xs, cs, rfl, hk, ea, hx, hok, h20, hne, hm, rfl, rfl, rfl⟩
    · refine ⟨_, (pss_cons (ps_expr (pe_mt m_need_make hr (by decide) (pv 0) (pa_cons (pv 1) pa_nil)))
      (pss_cons (ps_if (pt_not (pt_val (C8.pe_c c_is_changes hr (by decide) (by rfl) (pa_cons (pv 2) (pa_cons (pe_mt0 m_size hr (by decide) (pv 0)) pa_nil)))))
          (pss_one (ps_raiseE rfl R.e_NoChanges R.g_NoChanges hr (takes_of rfl rfl rfl rfl) (by exact (pa_cons (pv 2) pa_nil)) (by rfl))) pss_nil)
      (pss_cons (ps_if (pt_not (pt_truth (pv 2) (fun _ => rfl)))
          (pss_one (ps_ret (pe_lst pa_nil))) pss_nil)
      (pss_cons (ps_expr (pe_mt m_need_new hr (by decide) (pv 0) (pa_cons (pv 1) pa_nil)))
      (pss_cons (ps_expr (pe_mt m__row_need_room_for hr (by decide) (pv 0) (pa_cons (pe_callB call_len (by rfl) T.b_len boot_len_ (pa_cons (pv 2) pa_nil)) pa_nil)))
      (pss_cons (ps_set (i := 3) sc_Rows_put_all.nd rfl (Or.inl rfl) (pe_lst pa_nil))
      (pss_cons (ps_set (i := 4) sc_Rows_put_all.nd rfl (Or.inl rfl) (pv 1))
      (pss_cons (ps_for (passes_of rfl) rfl (pi_list (pv 2)) (pg_tup (by rfl) (pgs_cons (pg_name (i := 5) sc_Rows_put_all.nd rfl (Or.inl rfl)) (pgs_cons (pg_name (i := 6) sc_Rows_put_all.nd rfl (Or.inl rfl)) pgs_nil)))
          (pss_cons (ps_set (i := 4) sc_Rows_put_all.nd rfl (Or.inl rfl) (pe_mt m__row_put hr (by decide) (pv 0) (pa_cons (pv 4) (pa_cons (pv 5) (pa_cons (pv 6) pa_nil)))))
          (pss_one (ps_expr (pe_bm PySem.F.plainAttrs_list PySem.F.slot_list_append PySem.F.type_list_append mt_append (pv 3) (pa_cons (pv 4) pa_nil))))))
      (pss_one (ps_ret (pv 3))))))))))), ?_⟩
      refine ⟨_, rfl, o, dx, fs, rfl, e1, nl _ (by decide), _, rfl, N, o, n, ow, pc, ks, st, fs, i, rfl, r, hi, hk, ?_⟩
      refine ⟨_, rfl, _, rfl, o, dx, fs, rfl, e1, nl _ (by decide), N, o, n, ow, pc, ks, st, fs, rfl, r, v, d, (n : Nat), rfl, hd _ s0, fun H1 s1 => ?_⟩
      rw [bad]
      exact ⟨_, rfl, iteT ⟨_, rfl, _, rfl, fun a ha => q H1 a s1 ha⟩⟩
    · have hxe : xs.isEmpty = false := by
        cases xs with
        | nil => exact absurd (List.eq_nil_of_length_eq_zero hx.len.symm) hne
        | cons x xs => rfl
      refine ⟨_, (pss_cons (ps_expr (pe_mt m_need_make hr (by decide) (pv 0) (pa_cons (pv 1) pa_nil)))
      (pss_cons (ps_if (pt_not (pt_val (C8.pe_c c_is_changes hr (by decide) (by rfl) (pa_cons (pv 2) (pa_cons (pe_mt0 m_size hr (by decide) (pv 0)) pa_nil)))))
          (pss_one ps_never) pss_nil)
      (pss_cons (ps_if (pt_not (pt_truth (pv 2) (fun _ => rfl)))
          (pss_one (ps_ret (pe_lst pa_nil))) pss_nil)
      (pss_cons (ps_expr (pe_mtX x_new hr (by decide) (takes_of rfl rfl rfl rfl) (pv 0) (pa_cons (pv 1) pa_nil)))
      (pss_cons (ps_expr (pe_mt m__row_need_room_for hr (by decide) (pv 0) (pa_cons (pe_callB call_len (by rfl) T.b_len boot_len_ (pa_cons (pv 2) pa_nil)) pa_nil)))
      (pss_cons (ps_set (i := 3) sc_Rows_put_all.nd rfl (Or.inl rfl) (pe_lst pa_nil))
      (pss_cons (ps_set (i := 4) sc_Rows_put_all.nd rfl (Or.inl rfl) (pv 1))
      (pss_cons (ps_for (passes_of rfl) rfl (pi_list (pv 2)) (pg_tup (by rfl) (pgs_cons (pg_name (i := 5) sc_Rows_put_all.nd rfl (Or.inl rfl)) (pgs_cons (pg_name (i := 6) sc_Rows_put_all.nd rfl (Or.inl rfl)) pgs_nil)))
          (pss_cons (ps_set (i := 4) sc_Rows_put_all.nd rfl (Or.inl rfl) (pe_mt m__row_put hr (by decide) (pv 0) (pa_cons (pv 4) (pa_cons (pv 5) (pa_cons (pv 6) pa_nil)))))
          (pss_one (ps_expr (pe_bm PySem.F.plainAttrs_list PySem.F.slot_list_append PySem.F.type_list_append mt_append (pv 3) (pa_cons (pv 4) pa_nil))))))
      (pss_one (ps_ret (pv 3))))))))))), ?_⟩
      refine ⟨_, rfl, o, dx, fs, rfl, e1, nl _ (by decide), _, rfl, N, o, n, ow, pc, ks, st, fs, i, rfl, r, hi, hk, ?_⟩
      refine ⟨_, rfl, _, rfl, o, dx, fs, rfl, e1, nl _ (by decide), N, o, n, ow, pc, ks, st, fs, rfl, r, .ref a, .list (cs.map chD), (n : Nat), rfl, .dp (.lst (SqL.of ea) (chDp cs xs hx)), fun H1 s1 => ?_⟩
      rw [changesD_ok hok h20]
      refine ⟨_, rfl, iteF ?_⟩
      have r1 := r.same s1
      refine ⟨_, rfl, !xs.isEmpty, .inl ⟨xs, SqL.of (s1 _ _ ea), rfl⟩, ?_⟩
      rw [hxe]
      refine iteF ?_
      exact ⟨_, rfl, o, dx, fs, rfl, s1 _ _ e1, nl _ (by decide), _, rfl, N, o, n, ow, pc, ks, st, fs, i, rfl, r1, ne, fun a ha => q H1 a s1 ha⟩
    · have hxe : xs.isEmpty = false := by
        cases xs with
        | nil => exact absurd (List.eq_nil_of_length_eq_zero hx.len.symm) hne
        | cons x xs => rfl
      refine ⟨_, (pss_cons (ps_expr (pe_mt m_need_make hr (by decide) (pv 0) (pa_cons (pv 1) pa_nil)))
      (pss_cons (ps_if (pt_not (pt_val (C8.pe_c c_is_changes hr (by decide) (by rfl) (pa_cons (pv 2) (pa_cons (pe_mt0 m_size hr (by decide) (pv 0)) pa_nil)))))
          (pss_one ps_never) pss_nil)
      (pss_cons (ps_if (pt_not (pt_truth (pv 2) (fun _ => rfl)))
          (pss_one (ps_ret (pe_lst pa_nil))) pss_nil)
      (pss_cons (ps_expr (pe_mt m_need_new hr (by decide) (pv 0) (pa_cons (pv 1) pa_nil)))
      (pss_cons (ps_expr (pe_mtX x_room hr (by decide) (takes_of rfl rfl rfl rfl) (pv 0) (pa_cons (pe_callB call_len (by rfl) T.b_len boot_len_ (pa_cons (pv 2) pa_nil)) pa_nil)))
      (pss_cons (ps_set (i := 3) sc_Rows_put_all.nd rfl (Or.inl rfl) (pe_lst pa_nil))
      (pss_cons (ps_set (i := 4) sc_Rows_put_all.nd rfl (Or.inl rfl) (pv 1))
      (pss_cons (ps_for (passes_of rfl) rfl (pi_list (pv 2)) (pg_tup (by rfl) (pgs_cons (pg_name (i := 5) sc_Rows_put_all.nd rfl (Or.inl rfl)) (pgs_cons (pg_name (i := 6) sc_Rows_put_all.nd rfl (Or.inl rfl)) pgs_nil)))
          (pss_cons (ps_set (i := 4) sc_Rows_put_all.nd rfl (Or.inl rfl) (pe_mt m__row_put hr (by decide) (pv 0) (pa_cons (pv 4) (pa_cons (pv 5) (pa_cons (pv 6) pa_nil)))))
          (pss_one (ps_expr (pe_bm PySem.F.plainAttrs_list PySem.F.slot_list_append PySem.F.type_list_append mt_append (pv 3) (pa_cons (pv 4) pa_nil))))))
      (pss_one (ps_ret (pv 3))))))))))), ?_⟩
      refine ⟨_, rfl, o, dx, fs, rfl, e1, nl _ (by decide), _, rfl, N, o, n, ow, pc, ks, st, fs, ow.length, rfl, r, Nat.le_refl _, hk, ?_⟩
      refine ⟨_, rfl, _, rfl, o, dx, fs, rfl, e1, nl _ (by decide), N, o, n, ow, pc, ks, st, fs, rfl, r, .ref a, .list (cs.map chD), (n : Nat), rfl, .dp (.lst (SqL.of ea) (chDp cs xs hx)), fun H1 s1 => ?_⟩
      rw [changesD_ok hok h20]
      refine ⟨_, rfl, iteF ?_⟩
      have r1 := r.same s1
      refine ⟨_, rfl, !xs.isEmpty, .inl ⟨xs, SqL.of (s1 _ _ ea), rfl⟩, ?_⟩
      rw [hxe]
      refine iteF ?_
      refine ⟨_, rfl, o, dx, fs, rfl, s1 _ _ e1, nl _ (by decide), _, rfl, N, o, n, ow, pc, ks, st, fs, rfl, r1, ?_⟩
      refine ⟨_, rfl, o, dx, fs, rfl, s1 _ _ e1, nl _ (by decide), _, rfl, .ref a, _, rfl, .inl ⟨_, SqL.of (s1 _ _ ea), rfl⟩, N, o, n, ow, pc, ks, st, fs, cs.length, ?_, r1, hm, fun a ha => q H1 a s1 ha⟩
      rw [hx.len]
      rfl
theorem fn_allE {f : Addr} {fd : FuncData} (T : Txt K mg) (OC : RowC K C) (c_is_changes : C8.Cal P w K mg base 4 "is_changes" (spChangesD K) []) (m_need_make : Met P w K mg base 2 C "need_make" (spNeedMk C CL) []) (m_size : Met P w K mg base 1 C "size" (spSize C CL) []) (m_need_new : Met P w K mg base 2 C "need_new" (spNewL C CL) []) (m__row_need_room_for : Met P w K mg base 2 C "_row_need_room_for" (spRoom C CL) []) (m__row_put : Met P w K mg base 21 C "_row_put" (spRPutA C CL) [])
    (F : Fun K "put_all" "Rows.put_all" s_Rows_put_all f fd) : FnOk P w K mg base (L2.CX P w) 22 f fd ["self", "make", "changes"] (spAllE K C CL) := by
  refine F.okX sc_Rows_put_all (fun vs H Q E h => ?_) (fun cdv A outer s H vs Q E hr h => ?_)
  · obtain ⟨N, o, n, ow, pc, ks, st, fs, i, a, rfl, _⟩ := h
    rfl
  · obtain ⟨N, o, n, ow, pc, ks, st, fs, i, a, rfl, r, hi, hk, ea, q⟩ := h
    obtain ⟨dx, e1, nl⟩ := r.ins
    refine ⟨_, (pss_cons (ps_expr (pe_mt m_need_make hr (by decide) (pv 0) (pa_cons (pv 1) pa_nil)))
      (pss_cons (ps_if (pt_not (pt_val (C8.pe_c c_is_changes hr (by decide) (by rfl) (pa_cons (pv 2) (pa_cons (pe_mt0 m_size hr (by decide) (pv 0)) pa_nil)))))
          (pss_one ps_never) pss_nil)
      (pss_cons (ps_if (pt_not (pt_truth (pv 2) (fun _ => rfl)))
          (pss_one (ps_ret (pe_lst pa_nil))) pss_nil)
      (pss_cons (ps_expr (pe_mt m_need_new hr (by decide) (pv 0) (pa_cons (pv 1) pa_nil)))
      (pss_cons (ps_expr (pe_mt m__row_need_room_for hr (by decide) (pv 0) (pa_cons (pe_callB call_len (by rfl) T.b_len boot_len_ (pa_cons (pv 2) pa_nil)) pa_nil)))
      (pss_cons (ps_set (i := 3) sc_Rows_put_all.nd rfl (Or.inl rfl) (pe_lst pa_nil))
      (pss_cons (ps_set (i := 4) sc_Rows_put_all.nd rfl (Or.inl rfl) (pv 1))
      (pss_cons (ps_for (passes_of rfl) rfl (pi_list (pv 2)) (pg_tup (by rfl) (pgs_cons (pg_name (i := 5) sc_Rows_put_all.nd rfl (Or.inl rfl)) (pgs_cons (pg_name (i := 6) sc_Rows_put_all.nd rfl (Or.inl rfl)) pgs_nil)))
          (pss_cons (ps_set (i := 4) sc_Rows_put_all.nd rfl (Or.inl rfl) (pe_mt m__row_put hr (by decide) (pv 0) (pa_cons (pv 4) (pa_cons (pv 5) (pa_cons (pv 6) pa_nil)))))
          (pss_one (ps_expr (pe_bm PySem.F.plainAttrs_list PySem.F.slot_list_append PySem.F.type_list_append mt_append (pv 3) (pa_cons (pv 4) pa_nil))))))
      (pss_one (ps_ret (pv 3))))))))))), ?_⟩
    refine ⟨_, rfl, o, dx, fs, rfl, e1, nl _ (by decide), _, rfl, N, o, n, ow, pc, ks, st, fs, i, rfl, r, hi, hk, ?_⟩
    rcases ea with ea | ea
    · refine ⟨_, rfl, _, rfl, o, dx, fs, rfl, e1, nl _ (by decide), N, o, n, ow, pc, ks, st, fs, rfl, r, .ref a, .list [], (n : Nat), rfl, .dp (.lst (SqL.of ea) .nil), fun H1 s1 => ?_⟩
      refine ⟨_, rfl, iteF ?_⟩
      refine ⟨_, rfl, false, .inl ⟨[], SqL.of (s1 _ _ ea), rfl⟩, ?_⟩
      exact iteT ⟨(by show 0 ≤ sizeLine; decide), fun l hl => q l _ (none_of' s1 hl) upd_same (s1.trans (same_new hl))⟩
    · refine ⟨_, rfl, _, rfl, o, dx, fs, rfl, e1, nl _ (by decide), N, o, n, ow, pc, ks, st, fs, rfl, r, .ref a, .tuple [], (n : Nat), rfl, .dp (.tup (SqT.of ea) .nil), fun H1 s1 => ?_⟩
      refine ⟨_, rfl, iteF ?_⟩
      refine ⟨_, rfl, false, .inr (.inl ⟨[], SqT.of (s1 _ _ ea), rfl⟩), ?_⟩
      exact iteT ⟨(by show 0 ≤ sizeLine; decide), fun l hl => q l _ (none_of' s1 hl) upd_same (s1.trans (same_new hl))⟩
theorem ok_allB {g : Addr} {fd : FuncData} (OC : RowC K C) (F : FnOk P w K mg base (L2.CX P w) 22 g fd ["self", "make", "changes"] (spAllB K CA CG CM C CL)) (hb : Binds K fd ["self", "make", "changes"] []) (S : SAt P K C "put_all" "Lined.put_all" s_Lined_put_all ["self", "make", "changes"] g) : MetX P w K mg base 23 C "put_all" (spAllB K CA CG CM C CL) := by
  obtain ⟨f, cc, c, oc, od, doc, pm, an, ct, osl, sup, lk, me, bi⟩ := S.ex
  refine ⟨f, _, _, OC.cl, me, ?_, bi⟩
  refine okS_ret sup lk ns_putall rfl (fun vs H Q E h => ?_) rfl F hb (by rfl) (fun L => by rfl) (fun L => by rfl) (fun L => by rfl) ?_
  · obtain ⟨N, o, n, ow, pc, ks, st, fs, things, CX, xf, vals, rfl, _, h, _⟩ := h
    rcases h with ⟨i, v, d, rfl, _⟩ | ⟨i, a, xs, cs, rfl, _⟩ | ⟨a, xs, cs, rfl, _⟩ <;> rfl
  · rintro A outer s H vs Q E hr ⟨N, o, n, ow, pc, ks, st, fs, things, CX, xf, vals, rfl, r, h, q⟩
    obtain ⟨dx, e1, nl⟩ := r.ins
    obtain ⟨t1, t2, rfl⟩ : ∃ t1 t2, things = [t1, t2] := by
      rcases h with ⟨i, v, d, rfl, _⟩ | ⟨i, a, xs, cs, rfl, _⟩ | ⟨a, xs, cs, rfl, _⟩ <;> exact ⟨_, _, rfl⟩
    exact ⟨o, dx, fs, E, _, rfl, e1, passes_call (takes_of rfl rfl rfl rfl) (fun _ _ _ _ h => h), (pa_cons (pv 1) (pa_cons (pv 2) pa_nil)), _, rfl, _, rfl, N, o, n, ow, pc, ks, st, fs, [t1, t2], CX, xf, vals, rfl, r, h, q⟩
theorem ok_allE {g : Addr} {fd : FuncData} (OC : RowC K C) (F : FnOk P w K mg base (L2.CX P w) 22 g fd ["self", "make", "changes"] (spAllE K C CL)) (hb : Binds K fd ["self", "make", "changes"] []) (S : SAt P K C "put_all" "Lined.put_all" s_Lined_put_all ["self", "make", "changes"] g) : MetX P w K mg base 23 C "put_all" (spAllE K C CL) := by
  obtain ⟨f, cc, c, oc, od, doc, pm, an, ct, osl, sup, lk, me, bi⟩ := S.ex
  refine ⟨f, _, _, OC.cl, me, ?_, bi⟩
  refine okS_ret sup lk ns_putall rfl (fun vs H Q E h => ?_) rfl F hb (by rfl) (fun L => by rfl) (fun L => by rfl) (fun L => by rfl) ?_
  · obtain ⟨N, o, n, ow, pc, ks, st, fs, i, a, rfl, _⟩ := h
    rfl
  · rintro A outer s H vs Q E hr ⟨N, o, n, ow, pc, ks, st, fs, i, a, rfl, r, rest⟩
    obtain ⟨dx, e1, nl⟩ := r.ins
    exact ⟨o, dx, fs, E, _, rfl, e1, passes_call (takes_of rfl rfl rfl rfl) (fun _ _ _ _ h => h), (pa_cons (pv 1) (pa_cons (pv 2) pa_nil)), _, rfl, _, rfl, N, o, n, ow, pc, ks, st, fs, i, a, rfl, r, rest⟩
end
end K41
namespace K41
open PySem PySem.Spec PyProof.Rows L2 Gd Gs Gx Ge
open C8 (clsBody Met pe_mt pe_mt0)
section
variable {P : Program} {w : World} {K : PySem.W.Frag} {mg : Str → Option Value} {base : Heap} {C CL CA fA CN fN CP fP CS fS CW fW CG fG CM fM CE : Addr}
/-! ### what a deed tells -/
def ToldB (K : PySem.W.Frag) (H : Hp) (CA CN CP CW CG CM : Addr) (n : Nat) (ow ks : List Nat) (things : List V) (C : Addr) (fs : List (Str × V)) (vals : List V) : Prop := PutB K H CA CN CP CW CM n ow ks things C fs vals ∨ AllB K H CA CG CM n ow ks things C fs vals
def NoneB (H : Hp) (ow ks : List Nat) (things : List V) : Prop := ∃ (i : Nat) (a : Addr), things = [num i, .ref a] ∧ i ≤ ow.length ∧ i ∈ ks ∧ (H a = some (.lst []) ∨ H a = some (.tup []))
theorem ToldB.same {H H1 : Hp} {n : Nat} {ow ks : List Nat} {things : List V} {C : Addr} {fs : List (Str × V)} {vals : List V} (s : Same H H1) (h : ToldB K H CA CN CP CW CG CM n ow ks things C fs vals) : ToldB K H1 CA CN CP CW CG CM n ow ks things C fs vals := h.imp (PutB.same s) (AllB.same s)
theorem NoneB.same {H H1 : Hp} {ow ks : List Nat} {things : List V} (s : Same H H1) (h : NoneB H ow ks things) : NoneB H1 ow ks things := by
  obtain ⟨i, a, e, h1, h2, h3⟩ := h
  exact ⟨i, a, e, h1, h2, h3.imp (s _ _) (s _ _)⟩
def spTold (K : PySem.W.Frag) (CA CN CP CW CG CM C CL : Addr) : Sp := fun vs H Q _ => ∃ (N : Addr → Prop) (o t : Addr) (n : Nat) (ow pc ks : List Nat) (st : Int) (fs : List (Str × V)) (things : List V), vs = [.ref o, .ref t] ∧ RowB N H o C CL n ow pc ks st fs ∧ H t = some (.tup things) ∧
  ((∃ (CX : Addr) (xf : List (Str × V)) (vals : List V), ToldB K H CA CN CP CW CG CM n ow ks things CX xf vals ∧ ∀ (l : Addr) (H' : Hp), H l = none → H' l = some (.lst vals) → Same H H' → Q (.ref l) H') ∨
   (NoneB H ow ks things ∧ ∀ (l l2 : Addr) (H' : Hp), H l = none → H' l = some (.lst [.str "told", .ref l2]) → H' l2 = some (.lst []) → Same H H' → Q (.ref l) H'))
theorem ok_told (T : Txt K mg) (R : RfT P K mg CA fA CN fN CP fP CS fS CW fW CG fG CM fM CE) (c_caught : Gc.CalE P w K mg base 1 "_law_caught" (spCt CA CN CP CS CW CG CM)) (x_put : MetX P w K mg base 23 C "put" (spPutB K CA CN CP CW CM C CL)) (x_all : MetX P w K mg base 23 C "put_all" (spAllB K CA CG CM C CL)) (x_non : MetX P w K mg base 23 C "put_all" (spAllE K C CL)) (D : DefAt K mg "_law_told" s__law_told ["_law_lined", "_law_deed"]) : CalG P w K mg base 25 "_law_told" (spTold K CA CN CP CW CG CM C CL) := by
  refine D.cal sc__law_told (fun vs H Q E h => ?_) (fun f cdv A outer s H vs Q E hG hr h => ?_)
  · obtain ⟨N, o, t, n, ow, pc, ks, st, fs, things, rfl, _⟩ := h
    rfl
  · obtain ⟨N, o, t, n, ow, pc, ks, st, fs, things, rfl, r, et, h⟩ := h
    rcases h with ⟨CX, xf, vals, hb | hb, q⟩ | ⟨⟨i, a0, rfl, hi, hk, ea⟩, q⟩
    · obtain ⟨t1, t2, t3, rfl⟩ : ∃ t1 t2 t3, things = [t1, t2, t3] := by
        rcases hb with ⟨v, u, u2, d, rfl, _⟩ | ⟨i, v, u, d, rfl, _⟩ | ⟨i, j, v, d, rfl, _⟩ | ⟨i, j, x, rfl, _⟩ | ⟨j, x, rfl, _⟩ <;> exact ⟨_, _, _, rfl⟩
      refine ⟨_, (pss_cons (ps_set (i := 2) sc__law_told.nd rfl (Or.inl rfl) (pe_lst (pa_cons pe_str pa_nil)))
      (pss_cons (ps_try_as (i := 3) (tb := fun W => tIfS (tTest (tOp rEq (tCB (fun xs H Q => ∃ x n, xs = [x] ∧ LenV K x H n ∧ Q (V.int ((n : Nat) : Int)) H) (tCons (tVar 1) tNil)) (tC (.int 3)))) (tDrop (tMethX C "put" (spPutB K CA CN CP CW CM C CL) (WE W) (tVar 0) (tCons (tOp (rIxT K) (tVar 1) (tC (.int 0))) (tCons (tOp (rIxT K) (tVar 1) (tC (.int 1))) (tCons (tOp (rIxT K) (tVar 1) (tC (.int 2))) tNil))))) tNever) (ts := fun a cls d => tAsg (Gc.tCallE (spCt CA CN CP CS CW CG CM) a cls d (tCons (tVar 3) tNil)) (gName 2)) (Wout := fun _ _ _ _ => False) rfl rfl sc__law_told.nd rfl rfl ⟨rfl, by decide, Or.inl R.g_MakesError⟩ takes0 (fun W pn xe tk _ => pss_one (ps_if (pt_cmpR op_eq (pe_callB call_len (by rfl) T.b_len boot_len_ (pa_cons (pv 1) pa_nil)) pe_int (nomark _)) (pss_one (ps_expr (by exact (pe_mtX x_put hr (by decide) tk (pv 0) (by exact (pa_cons (pe_ix ix_tup (pv 1) pe_int (fun _ _ => rfl)) (pa_cons (pe_ix ix_tup (pv 1) pe_int (fun _ _ => rfl)) (pa_cons (pe_ix ix_tup (pv 1) pe_int (fun _ _ => rfl)) pa_nil)))))))) (pss_one ps_never))) (fun a oe cls d pn hz hf => pss_one (ps_set (i := 2) sc__law_told.nd rfl (Or.inl rfl) (Gc.pe_callE c_caught List.mem_cons_self hz hf (roomM hr (by decide)) (by rfl) (pa_cons (pv 3) pa_nil)))))
      (pss_one (ps_ret (pv 2))))), ?_⟩
      refine ⟨(by show 1 ≤ sizeLine; decide), fun l0 hl0 => ?_⟩
      have s1 := same_new (o := .lst [V.str "told"]) hl0
      generalize upd H l0 (.lst [V.str "told"]) = H1 at *
      have r1 := r.same s1
      obtain ⟨dx, e1, nl⟩ := r1.ins
      have et1 := s1 _ _ et
      refine ⟨_, rfl, .ref t, _, rfl, .inr ⟨_, SqT.of et1, rfl⟩, rfl, _, rfl, iteT ?_⟩
      refine ⟨_, rfl, o, dx, fs, rfl, e1, nl _ (by decide), _, rfl, t, _, _, t1, rfl, rfl, SqT.of et1, rfl, _, rfl, t, _, _, t2, rfl, rfl, SqT.of et1, rfl, _, rfl, t, _, _, t3, rfl, rfl, SqT.of et1, rfl, N, o, n, ow, pc, ks, st, fs, [t1, t2, t3], CX, xf, vals, rfl, r1, hb.same s1, fun a ha => ?_⟩
      refine ⟨true, (PutB.rf (CS := CS) (CG := CG) hb).exm R, fun _ a' ha' => ?_, fun z => nomatch z⟩
      have sx : Same H1 (upd H1 a (.xd xf)) := same_new ha
      refine ⟨_, rfl, a, CX, xf, vals, rfl, PutB.rf hb, rfl, rfl, upd_same, fun l H' hl el s2 => ?_⟩
      exact ⟨_, rfl, q l H' (none_of' s1 (none_of' sx hl)) el (s1.trans (sx.trans s2))⟩
    · obtain ⟨t1, t2, rfl⟩ : ∃ t1 t2, things = [t1, t2] := by
        rcases hb with ⟨i, v, d, rfl, _⟩ | ⟨i, a, xs, cs, rfl, _⟩ | ⟨a, xs, cs, rfl, _⟩ <;> exact ⟨_, _, rfl⟩
      refine ⟨_, (pss_cons (ps_set (i := 2) sc__law_told.nd rfl (Or.inl rfl) (pe_lst (pa_cons pe_str pa_nil)))
      (pss_cons (ps_try_as (i := 3) (tb := fun W => tIfS (tTest (tOp rEq (tCB (fun xs H Q => ∃ x n, xs = [x] ∧ LenV K x H n ∧ Q (V.int ((n : Nat) : Int)) H) (tCons (tVar 1) tNil)) (tC (.int 3)))) tNever (tAsg (tLst (tCons (tC (.str "told")) (tCons (tMethX C "put_all" (spAllB K CA CG CM C CL) (WE W) (tVar 0) (tCons (tOp (rIxT K) (tVar 1) (tC (.int 0))) (tCons (tOp (rIxT K) (tVar 1) (tC (.int 1))) tNil))) tNil))) (gName 2))) (ts := fun a cls d => tAsg (Gc.tCallE (spCt CA CN CP CS CW CG CM) a cls d (tCons (tVar 3) tNil)) (gName 2)) (Wout := fun _ _ _ _ => False) rfl rfl sc__law_told.nd rfl rfl ⟨rfl, by decide, Or.inl R.g_MakesError⟩ takes0 (fun W pn xe tk _ => pss_one (ps_if (pt_cmpR op_eq (pe_callB call_len (by rfl) T.b_len boot_len_ (pa_cons (pv 1) pa_nil)) pe_int (nomark _)) (pss_one ps_never) (pss_one (ps_set (i := 2) sc__law_told.nd rfl (Or.inl rfl) (by exact (pe_lst (pa_cons pe_str (pa_cons (by exact (pe_mtX x_all hr (by decide) tk (pv 0) (by exact (pa_cons (pe_ix ix_tup (pv 1) pe_int (fun _ _ => rfl)) (pa_cons (pe_ix ix_tup (pv 1) pe_int (fun _ _ => rfl)) pa_nil))))) pa_nil)))))))) (fun a oe cls d pn hz hf => pss_one (ps_set (i := 2) sc__law_told.nd rfl (Or.inl rfl) (Gc.pe_callE c_caught List.mem_cons_self hz hf (roomM hr (by decide)) (by rfl) (pa_cons (pv 3) pa_nil)))))
      (pss_one (ps_ret (pv 2))))), ?_⟩
      refine ⟨(by show 1 ≤ sizeLine; decide), fun l0 hl0 => ?_⟩
      have s1 := same_new (o := .lst [V.str "told"]) hl0
      generalize upd H l0 (.lst [V.str "told"]) = H1 at *
      have r1 := r.same s1
      obtain ⟨dx, e1, nl⟩ := r1.ins
      have et1 := s1 _ _ et
      refine ⟨_, rfl, .ref t, _, rfl, .inr ⟨_, SqT.of et1, rfl⟩, rfl, _, rfl, iteF ?_⟩
      refine ⟨_, rfl, o, dx, fs, rfl, e1, nl _ (by decide), _, rfl, t, _, _, t1, rfl, rfl, SqT.of et1, rfl, _, rfl, t, _, _, t2, rfl, rfl, SqT.of et1, rfl, N, o, n, ow, pc, ks, st, fs, [t1, t2], CX, xf, vals, rfl, r1, hb.same s1, fun H2 a s2 ha => ?_⟩
      refine ⟨true, (AllB.rf (CN := CN) (CP := CP) (CS := CS) (CW := CW) hb).exm R, fun _ a' ha' => ?_, fun z => nomatch z⟩
      have sx : Same H2 (upd H2 a (.xd xf)) := same_new ha
      refine ⟨_, rfl, a, CX, xf, vals, rfl, AllB.rf hb, rfl, rfl, upd_same, fun l H' hl el s3 => ?_⟩
      exact ⟨_, rfl, q l H' (none_of' s1 (none_of' s2 (none_of' sx hl))) el (s1.trans (s2.trans (sx.trans s3)))⟩
    · refine ⟨_, (pss_cons (ps_set (i := 2) sc__law_told.nd rfl (Or.inl rfl) (pe_lst (pa_cons pe_str pa_nil)))
      (pss_cons (ps_try_as (i := 3) (tb := fun W => tIfS (tTest (tOp rEq (tCB (fun xs H Q => ∃ x n, xs = [x] ∧ LenV K x H n ∧ Q (V.int ((n : Nat) : Int)) H) (tCons (tVar 1) tNil)) (tC (.int 3)))) tNever (tAsg (tLst (tCons (tC (.str "told")) (tCons (tMethX C "put_all" (spAllE K C CL) (WE W) (tVar 0) (tCons (tOp (rIxT K) (tVar 1) (tC (.int 0))) (tCons (tOp (rIxT K) (tVar 1) (tC (.int 1))) tNil))) tNil))) (gName 2))) (ts := fun a cls d => tAsg (Gc.tCallE (spCt CA CN CP CS CW CG CM) a cls d (tCons (tVar 3) tNil)) (gName 2)) (Wout := fun _ _ _ _ => False) rfl rfl sc__law_told.nd rfl rfl ⟨rfl, by decide, Or.inl R.g_MakesError⟩ takes0 (fun W pn xe tk _ => pss_one (ps_if (pt_cmpR op_eq (pe_callB call_len (by rfl) T.b_len boot_len_ (pa_cons (pv 1) pa_nil)) pe_int (nomark _)) (pss_one ps_never) (pss_one (ps_set (i := 2) sc__law_told.nd rfl (Or.inl rfl) (by exact (pe_lst (pa_cons pe_str (pa_cons (by exact (pe_mtX x_non hr (by decide) tk (pv 0) (by exact (pa_cons (pe_ix ix_tup (pv 1) pe_int (fun _ _ => rfl)) (pa_cons (pe_ix ix_tup (pv 1) pe_int (fun _ _ => rfl)) pa_nil))))) pa_nil)))))))) (fun a oe cls d pn hz hf => pss_one (ps_set (i := 2) sc__law_told.nd rfl (Or.inl rfl) (Gc.pe_callE c_caught List.mem_cons_self hz hf (roomM hr (by decide)) (by rfl) (pa_cons (pv 3) pa_nil)))))
      (pss_one (ps_ret (pv 2))))), ?_⟩
      refine ⟨(by show 1 ≤ sizeLine; decide), fun l0 hl0 => ?_⟩
      have s1 := same_new (o := .lst [V.str "told"]) hl0
      generalize upd H l0 (.lst [V.str "told"]) = H1 at *
      have r1 := r.same s1
      obtain ⟨dx, e1, nl⟩ := r1.ins
      have et1 := s1 _ _ et
      refine ⟨_, rfl, .ref t, _, rfl, .inr ⟨_, SqT.of et1, rfl⟩, rfl, _, rfl, iteF ?_⟩
      refine ⟨_, rfl, o, dx, fs, rfl, e1, nl _ (by decide), _, rfl, t, _, _, num i, rfl, rfl, SqT.of et1, rfl, _, rfl, t, _, _, .ref a0, rfl, rfl, SqT.of et1, rfl, N, o, n, ow, pc, ks, st, fs, i, a0, rfl, r1, hi, hk, ea.imp (s1 _ _) (s1 _ _), fun l2 H2 hl2 el2 s2 => ?_⟩
      refine ⟨(by show 2 ≤ sizeLine; decide), fun l hl => ?_⟩
      exact ⟨_, rfl, q l l2 _ (none_of' s1 (none_of' s2 hl)) upd_same (same_new hl _ _ el2) (s1.trans (s2.trans (same_new hl)))⟩
end
end K41
namespace K41
open PySem PySem.Spec PyProof.Rows L2 Gd Gs Gx Ge
open C8 (clsBody Met pe_mt pe_mt0)
/-! ### what is seen of it -/
def seenD (ws : List Int) (ow pc : List Nat) (vl : List Int) (ks : List Nat) (st : Int) : PyData := .list [.int st, .int ((ow.length + 1 : Nat) : Int), .list (ks.map fun n => PyData.int (n : Nat)), .list (bxsD ws ow pc vl ks)]
theorem can_nums (xs : List Nat) : PyData.canLayAll0 (xs.map fun n => PyData.int (n : Nat)) = true := by
  induction xs with
  | nil => simp [PyData.canLayAll0]
  | cons x xs ih => simp [PyData.canLayAll0, PyData.canLay0, ih]
theorem can_lists {α : Type} (f : α → PyData) : ∀ (l : List α), (∀ x, x ∈ l → PyData.canLay0 (f x) = true) → PyData.canLayAll0 (l.map f) = true
  | [], _ => by simp [PyData.canLayAll0]
  | x :: xs, h => by
    rw [List.map_cons, PyData.canLayAll0, h x (List.mem_cons_self ..), can_lists f xs fun y hy => h y (List.mem_cons_of_mem _ hy)]
    rfl
theorem can_seen (ws : List Int) (ow pc : List Nat) (vl : List Int) (ks : List Nat) (st : Int) : PyData.canLay0 (seenD ws ow pc vl ks st) = true := by
  have h := can_lists (fun q => PyData.list ((bxL ws ow pc vl ks q).map chD)) (List.range ws.length) fun q _ => can_chs _
  unfold seenD bxsD
  simp [PyData.canLay0, PyData.canLayAll0, can_nums, h]
theorem depthAll_le {α : Type} (f : α → PyData) (n : Nat) : ∀ (l : List α), (∀ x, x ∈ l → (f x).depth ≤ n) → PyData.depthAll (l.map f) ≤ n
  | [], _ => by simp [PyData.depthAll]
  | x :: xs, h => by
    rw [List.map_cons, PyData.depthAll]
    exact Nat.max_le.mpr ⟨h x (List.mem_cons_self ..), depthAll_le f n xs fun y hy => h y (List.mem_cons_of_mem _ hy)⟩
theorem dp_seen (ws : List Int) (ow pc : List Nat) (vl : List Int) (ks : List Nat) (st : Int) : (seenD ws ow pc vl ks st).depth ≤ 4 := by
  have h1 : PyData.depthAll (bxsD ws ow pc vl ks) ≤ 2 := depthAll_le _ 2 _ fun q _ => by
    show (PyData.list ((bxL ws ow pc vl ks q).map chD)).depth ≤ 2
    rw [PyData.depth]
    have := depthAll_le chD 1 (bxL ws ow pc vl ks q) fun c _ => by simp [chD, PyData.depth, PyData.depthAll]
    omega
  have h2 : PyData.depthAll (ks.map fun n => PyData.int (n : Nat)) ≤ 0 := depthAll_le _ 0 _ fun q _ => by simp [PyData.depth]
  unfold seenD
  simp only [PyData.depth, PyData.depthAll]
  omega
theorem sh_seen (ws : List Int) (ow pc : List Nat) (vl : List Int) (ks : List Nat) (st : Int) : SeqAt.shaped (seenD ws ow pc vl ks st) = true := by
  unfold SeqAt.shaped
  rw [can_seen, Bool.true_and]
  refine decide_eq_true ?_
  have := dp_seen ws ow pc vl ks st
  omega
section
variable {P : Program} {w : World} {K : PySem.W.Frag} {mg : Str → Option Value} {base : Heap} {C CL CA fA CN fN CP fP CS fS CW fW CG fG CM fM CE : Addr}
def spSeen (K : PySem.W.Frag) (C CL : Addr) : Sp := fun vs H Q _ => ∃ (N : Addr → Prop) (o : Addr) (ws : List Int) (ow pc : List Nat) (vl : List Int) (ks : List Nat) (st : Int), vs = [.ref o, num ws.length] ∧ RowA N H o C CL ws ow pc vl ks st ∧
  ∀ (l : Addr) (H' : Hp), H l = none → (∀ H2, (∀ c u, H c = none → H' c = some u → H2 c = some u) → KT H' H2 → Dp K H2 (.ref l) (seenD ws ow pc vl ks st)) → Same H H' → Q (.ref l) H'
theorem ok_seen (T : Txt K mg) (m_steps : Met P w K mg base 1 C "steps" (spSteps C CL) []) (m_many : Met P w K mg base 1 C "many" (spRMany C CL) []) (m_makes : Met P w K mg base 1 C "makes" (spMakes C CL) []) (m_box : Met P w K mg base 3 C "box" (spBoxA C CL) []) (D : DefAt K mg "_law_seen" s__law_seen ["_law_lined", "_law_size"]) : CalG P w K mg base 4 "_law_seen" (spSeen K C CL) := by
  refine D.cal sc__law_seen (fun vs H Q E h => ?_) (fun f cdv A outer s H vs Q E hG hr h => ?_)
  · obtain ⟨N, o, ws, ow, pc, vl, ks, st, rfl, _⟩ := h
    rfl
  · obtain ⟨N, o, ws, ow, pc, vl, ks, st, rfl, r, q⟩ := h
    have sz := r.fit.sz
    have ev : (fun i : Nat => V.int (0 + ((i : Nat) : Int))) = num := by
      funext i
      show V.int _ = V.int _
      rw [Int.zero_add]
    obtain ⟨NB, fs, rb, sb⟩ := r.b
    obtain ⟨dx, e1, nl⟩ := rb.ins
    refine ⟨_, (pss_one (ps_ret (pe_lst (pa_cons (pe_mt0 m_steps hr (by decide) (pv 0)) (pa_cons (pe_mt0 m_many hr (by decide) (pv 0)) (pa_cons (pe_mt0 m_makes hr (by decide) (pv 0)) (pa_cons (pe_lc (own := [("_law_place", 2)]) (g := gName 2) (tt := tYes) rfl sc__law_seen.nd (pi_range1 rfl T.b_range (pa_cons (pv 1) pa_nil)) (blkOk_by (own := [("_law_place", 2)]) (N := ["_law_lined", "_law_size", "_law_place"]) (sc := defScope s__law_seen) (by decide +kernel)) (fun _ _ _ _ _ => pg_name (i := 2) sc__law_seen.nd rfl (Or.inl rfl)) (fun _ _ _ _ _ => pts_nil) (fun _ _ _ _ _ => (pe_mt m_box hr (by decide) (pv 0) (pa_cons (pv 2) pa_nil)))) pa_nil))))))), ?_⟩
    refine ⟨_, rfl, o, dx, fs, rfl, e1, nl _ (by decide), NB, o, ws.length, ow, pc, ks, st, fs, rfl, rb, ?_⟩
    refine ⟨_, rfl, o, dx, fs, rfl, e1, nl _ (by decide), NB, o, ws.length, ow, pc, ks, st, fs, rfl, rb, ?_⟩
    refine ⟨_, rfl, o, dx, fs, rfl, e1, nl _ (by decide), NB, o, ws.length, ow, pc, ks, st, fs, rfl, rb, fun ka H1 hka eka s1 => ?_⟩
    refine ⟨_, rfl, _, rfl, by omega, by omega, fun B hBn => ?_⟩
    rw [Int.toNat_natCast]
    refine lc_it (walk_range (lo := 0) (n := ws.length)) (fun n H' => ∃ ps : List Addr, Same H1 H' ∧ H' B = some (.lst (ps.map V.ref)) ∧ ps.length = n ∧ ∀ (q : Nat) (p : Addr), ps[q]? = some p → H p = none ∧ p ≠ B ∧ ∃ xs, H' p = some (.lst xs) ∧ ChX H' xs (bxL ws ow pc vl ks q)) ⟨[], same_new hBn, upd_same, rfl, fun q p h => by simp at h⟩ (fun _ _ _ _ => trivial) (fun n v H2 H3 hn hP hY => ?_) (fun H2 hP => ?_)
    · obtain ⟨ps, s2, eB, hlen, hall⟩ := hP
      obtain ⟨rfl, rfl⟩ := hY
      rw [ev]
      refine ⟨rfl, yesI ?_⟩
      have r2 := r.same (s1.trans s2)
      obtain ⟨dx, fs, e1, nl⟩ := r2.ins
      refine ⟨_, rfl, o, dx, fs, rfl, e1, nl _ (by decide), _, rfl, N, o, ws, ow, pc, vl, ks, st, n, rfl, r2, hn, fun p H3 xs hp ep cx s3 => ?_⟩
      have pB : p ≠ B := (ne_of_none eB hp).symm
      have kB : ∀ c u, c ≠ B → H3 c = some u → (upd H3 B (.lst (ps.map V.ref ++ [.ref p]))) c = some u := fun c u hc z => by
        rw [upd_ne hc]
        exact z
      have kt : KT H3 (upd H3 B (.lst (ps.map V.ref ++ [.ref p]))) := fun c ys z => kB c _ (fun e => by rw [e, s3 _ _ eB] at z; cases z) z
      refine ⟨_, s3 _ _ eB, small1000 (by rw [List.length_map]; omega), ps ++ [p], fun c u z => kB c u (ne_of_none z hBn) (s3 _ _ (s2 _ _ z)), by rw [upd_same, List.map_append]; rfl, by rw [List.length_append, hlen]; rfl, fun q' p' hq => ?_⟩
      by_cases hq2 : q' < ps.length
      · rw [List.getElem?_append_left hq2] at hq
        obtain ⟨g1, g2, ys, g3, g4⟩ := hall q' p' hq
        exact ⟨g1, g2, ys, kB _ _ g2 (s3 _ _ g3), (g4.kp (KT.of s3)).kp kt⟩
      · rw [List.getElem?_append_right (by omega)] at hq
        cases hz : q' - ps.length with
        | zero =>
          rw [hz] at hq
          obtain rfl : p = p' := Option.some.inj hq
          obtain rfl : q' = n := by omega
          exact ⟨none_of' s1 (none_of' s2 hp), pB, xs, kB _ _ pB ep, cx.kp kt⟩
        | succ r =>
          rw [hz] at hq
          simp at hq
    · obtain ⟨ps, s2, eB, hlen, hall⟩ := hP
      refine ⟨(by show 4 ≤ sizeLine; decide), fun l hl => ?_⟩
      generalize hg : upd H2 l (HO.lst _) = H3
      have s3 : Same H2 H3 := hg ▸ same_new hl
      have el : H3 l = some (.lst [.int st, num (ow.length + 1), .ref ka, .ref B]) := by
        rw [← hg]
        exact upd_same
      clear hg
      refine q l H3 (none_of' s1 (none_of' s2 hl)) (fun H4 k4 kt4 => ?_) (s1.trans (s2.trans s3))
      refine .lst (SqL.of (k4 _ _ (none_of' s1 (none_of' s2 hl)) el)) (.cons (.int _) (.cons (.int _) (.cons (.lst (SqL.of (k4 _ _ hka (s3 _ _ (s2 _ _ eka)))) (numsD ks)) (.cons (.lst (SqL.of (k4 _ _ (none_of' s1 hBn) (s3 _ _ eB))) (bxs_dp hlen fun q' p hq => ?_)) .nil))))
      obtain ⟨g1, _, xs, g3, g4⟩ := hall q' p hq
      exact ⟨xs, k4 _ _ g1 (s3 _ _ g3), (g4.kp (KT.of s3)).kp kt4⟩
end
end K41
namespace K41
open PySem PySem.Spec PyProof.Rows L2 Gd Gs Gx Ge
open C8 (clsBody Met pe_mt pe_mt0)
theorem rep_flat {x : V} : ∀ k : Nat, (List.replicate k [x]).flatten = List.replicate k x
  | 0 => rfl
  | k + 1 => by
    rw [List.replicate_succ, List.flatten_cons, rep_flat k, List.replicate_succ]
    rfl
theorem chRep {H : Hp} {t : Addr} {p : Nat} {x : Int} {k : Nat} (e : H t = some (.tup [num p, .int x])) : ChX H (List.replicate k (V.ref t)) (List.replicate k (p, x)) :=
  ⟨by rw [List.length_replicate, List.length_replicate], fun i c hc => by
    have hi : i < k := by
      have := (List.getElem?_eq_some_iff.mp hc).1
      rw [List.length_replicate] at this
      exact this
    rw [List.getElem?_replicate, if_pos hi] at hc
    cases hc
    exact ⟨t, by rw [List.getElem?_replicate, if_pos hi], e⟩⟩
section
variable {P : Program} {w : World} {K : PySem.W.Frag} {mg : Str → Option Value} {base : Heap} {C CL CA fA CN fN CP fP CS fS CW fW CG fG CM fM CE : Addr}
/-- a deed and what is due for it -/
def BadR (K : PySem.W.Frag) (H : Hp) (CA CN CP CW CG CM : Addr) (n : Nat) (ow ks : List Nat) (things : List V) (du : Addr) : Prop :=
  (∃ (CX : Addr) (xf : List (Str × V)) (vals : List V) (ds : List PyData), ToldB K H CA CN CP CW CG CM n ow ks things CX xf vals ∧ H du = some (.lst vals) ∧ (∀ H2, Same H H2 → DpAll K H2 vals ds) ∧ Okd (.list ds) 60000 5) ∨
  (NoneB H ow ks things ∧ ∃ l2 : Addr, H du = some (.lst [.str "told", .ref l2]) ∧ H l2 = some (.lst []))
def spBd (K : PySem.W.Frag) (CA CN CP CW CG CM : Addr) : Sp := fun vs H Q _ => ∃ (b : Addr) (m : Int) (i n : Nat) (v : V) (d : PyData) (ow ks : List Nat), vs = [.ref b, num i, v, num n] ∧ BoxD H b m ∧ m ≤ 900000 ∧ 2 ≤ n ∧ n ≤ 16 ∧ i ≤ ow.length ∧ i ∈ ks ∧ i ≠ ow.length ∧ ow.length ≤ 63 ∧ (∀ H', Dp K H' v d) ∧ Okd d 10000 2 ∧ NoK ow ks d ∧
  ∀ (t dd du : Addr) (H' : Hp) (things : List V), H' t = some (.tup [.ref dd, .ref du]) → H' dd = some (.tup things) → BadR K H' CA CN CP CW CG CM n ow ks things du → BoxD H' b (m + 10) → (∀ c u, c ≠ b → H c = some u → H' c = some u) → Q (.ref t) H'
theorem ok_bd (T : Txt K mg) (c__law_take : CalG P w K mg base 1 "_law_take" spTakeD) (D : DefAt K mg "_law_bad" s__law_bad ["_law_box_here", "_law_elder", "_law_gone", "_law_size"]) : CalG P w K mg base 2 "_law_bad" (spBd K CA CN CP CW CG CM) := by
  refine D.cal sc__law_bad (fun vs H Q E h => ?_) (fun f cdv A outer s H vs Q E hG hr h => ?_)
  · obtain ⟨b, m, i, n, v, d, ow, ks, rfl, _⟩ := h
    rfl
  · obtain ⟨b, m, i, n, v, d, ow, ks, rfl, hB, hm, n2, n16, hi, hk, ne, few, hd, okd, bad, q⟩ := h
    refine ⟨_, (pss_cons (ps_set (i := 4) sc__law_bad.nd rfl (Or.inl rfl) (pe_g c__law_take hG (hr.mono (by decide)) (by rfl) (pa_cons (pv 0) (pa_cons pe_int pa_nil))))
      (pss_cons (ps_set (i := 5) sc__law_bad.nd rfl (Or.inl rfl) (pe_ix ix_list (pe_lst (pa_cons (pv 3) (pa_cons (pe_un un_neg pe_int) (pa_cons pe_non (pa_cons pe_bl (pa_cons pe_str pa_nil)))))) (pe_g c__law_take hG (hr.mono (by decide)) (by rfl) (pa_cons (pv 0) (pa_cons pe_int pa_nil))) (fun _ _ => rfl)))
      (pss_cons (ps_set (i := 6) sc__law_bad.nd rfl (Or.inl rfl) (pe_ix ix_list (pe_lst (pa_cons (pe_op op_pow pe_int pe_int) (pa_cons (pe_op op_sub pe_int (pe_op op_pow pe_int pe_int)) (pa_cons pe_non (pa_cons pe_bl (pa_cons pe_str pa_nil)))))) (pe_g c__law_take hG (hr.mono (by decide)) (by rfl) (pa_cons (pv 0) (pa_cons pe_int pa_nil))) (fun _ _ => rfl)))
      (pss_cons (ps_set (i := 7) sc__law_bad.nd rfl (Or.inl rfl) (pe_ix ix_list (pe_lst (pa_cons (pe_lst (pa_cons (pe_tup (pa_cons pe_int (pa_cons (pv 6) pa_nil))) pa_nil)) (pa_cons (pe_lst (pa_cons (pe_tup (pa_cons (pv 5) (pa_cons pe_int pa_nil))) pa_nil)) (pa_cons (pe_op op_rep (pe_lst (pa_cons (pe_tup (pa_cons pe_int (pa_cons pe_int pa_nil))) pa_nil)) pe_int) (pa_cons pe_non (pa_cons (pe_lst (pa_cons (pe_tup (pa_cons pe_int (pa_cons pe_int pa_nil))) (pa_cons (pe_lst (pa_cons pe_int (pa_cons pe_int pa_nil))) pa_nil))) pa_nil)))))) (pe_g c__law_take hG (hr.mono (by decide)) (by rfl) (pa_cons (pv 0) (pa_cons pe_int pa_nil))) (fun _ _ => rfl)))
      (pss_cons (ps_set (i := 8) sc__law_bad.nd rfl (Or.inl rfl) (pe_ix ix_list (pe_lst (pa_cons pe_int (pa_cons pe_int (pa_cons pe_int pa_nil)))) (pe_g c__law_take hG (hr.mono (by decide)) (by rfl) (pa_cons (pv 0) (pa_cons pe_int pa_nil))) (fun _ _ => rfl)))
      (pss_cons (ps_set (i := 9) sc__law_bad.nd rfl (Or.inl rfl) (pe_lst (pa_cons (pe_tup (pa_cons (pe_tup (pa_cons (pv 1) (pa_cons pe_int (pa_cons pe_int pa_nil)))) (pa_cons (pe_lst (pa_cons pe_str (pa_cons (pv 1) pa_nil))) pa_nil))) (pa_cons (pe_tup (pa_cons (pe_tup (pa_cons (pv 1) (pa_cons (pe_op op_sub (pv 3) pe_int) (pa_cons (pe_op op_sub pe_int pe_int) pa_nil)))) (pa_cons (pe_lst (pa_cons pe_str (pa_cons (pv 1) pa_nil))) pa_nil))) pa_nil))))
      (pss_cons (ps_set (i := 9) sc__law_bad.nd rfl (Or.inl rfl) (pe_op op_cat (pv 9) (pe_lst (pa_cons (pe_tup (pa_cons (pe_tup (pa_cons (pv 1) (pa_cons (pv 5) (pa_cons (pv 6) pa_nil)))) (pa_cons (pe_lst (pa_cons pe_str (pa_cons (pv 5) pa_nil))) pa_nil))) (pa_cons (pe_tup (pa_cons (pe_tup (pa_cons (pv 1) (pa_cons pe_int (pa_cons (pv 6) pa_nil)))) (pa_cons (pe_lst (pa_cons pe_str (pa_cons (pv 6) pa_nil))) pa_nil))) pa_nil)))))
      (pss_cons (ps_set (i := 9) sc__law_bad.nd rfl (Or.inl rfl) (pe_op op_cat (pv 9) (pe_lst (pa_cons (pe_tup (pa_cons (pe_tup (pa_cons (pv 1) (pa_cons (pv 7) pa_nil))) (pa_cons (pe_lst (pa_cons pe_str (pa_cons (pv 7) pa_nil))) pa_nil))) (pa_cons (pe_tup (pa_cons (pe_tup (pa_cons (pv 1) (pa_cons (pe_op op_rep (pe_lst (pa_cons (pe_tup (pa_cons pe_int (pa_cons pe_int pa_nil))) pa_nil)) (pv 8)) pa_nil))) (pa_cons (pe_lst (pa_cons pe_str (pa_cons (pv 1) pa_nil))) pa_nil))) pa_nil)))))
      (pss_cons (ps_set (i := 9) sc__law_bad.nd rfl (Or.inl rfl) (pe_op op_cat (pv 9) (pe_lst (pa_cons (pe_tup (pa_cons (pe_tup (pa_cons (pv 1) (pa_cons (pe_tup pa_nil) pa_nil))) (pa_cons (pe_lst (pa_cons pe_str (pa_cons (pe_lst pa_nil) pa_nil))) pa_nil))) (pa_cons (pe_tup (pa_cons (pe_tup (pa_cons (pv 2) (pa_cons (pv 5) (pa_cons (pv 6) pa_nil)))) (pa_cons (pe_lst (pa_cons pe_str (pa_cons (pv 2) pa_nil))) pa_nil))) pa_nil)))))
      (pss_one (ps_ret (pe_ix ix_list (pv 9) (pv 4) (fun _ _ => rfl))))))))))))), ?_⟩
    refine ⟨_, rfl, b, 8, m, rfl, hB, by omega, by decide, by decide, fun wy H1 w0 w1 hB k1 => ?_⟩
    have f1 : ∀ c u, c ≠ b → H c = some u → H1 c = some u := fun c u hc z => (k1 c hc).trans z
    obtain ⟨way, rfl⟩ : ∃ way : Nat, wy = way := ⟨wy.toNat, by omega⟩
    refine ⟨_, rfl, 1, rfl, (by show 5 ≤ sizeLine; decide), fun p1 hp1 => ?_⟩
    generalize hg : upd H1 p1 (HO.lst _) = H2
    have s2 : Same H1 H2 := hg ▸ same_new hp1
    have ep1 : H2 p1 = some (.lst [num n, V.int (-1), .non, .bl true, .str "0"]) := by
      rw [← hg]
      exact upd_same
    clear hg
    have np1 := hB.ne hp1
    replace hB := hB.kp (H' := H2) fun u z => s2 _ _ z
    refine ⟨_, rfl, b, 5, m + 1, rfl, hB, by omega, by decide, by decide, fun g1 H3 a0 a1 hB k3 => ?_⟩
    have f3 : ∀ c u, c ≠ b → H2 c = some u → H3 c = some u := fun c u hc z => (k3 c hc).trans z
    obtain ⟨u, du, hau, hdu, oku, badu⟩ : ∃ (u : V) (du : PyData), atI [num n, V.int (-1), .non, .bl true, .str "0"] g1 = some u ∧ (∀ H', Dp K H' u du) ∧ Okd du 50 0 ∧ wholeD du 0 ((n : Nat) - 1 : Int) = false := by
      rcases (by omega : g1 = 0 ∨ g1 = 1 ∨ g1 = 2 ∨ g1 = 3 ∨ g1 = 4) with rfl | rfl | rfl | rfl | rfl
      · refine ⟨_, .int (n : Nat), rfl, fun _ => .int _, num2k (by omega), ?_⟩
        show (decide ((0 : Int) ≤ (n : Nat)) && decide (((n : Nat) : Int) ≤ (n : Nat) - 1)) = false
        rw [decide_eq_false (by omega : ¬ ((n : Nat) : Int) ≤ (n : Nat) - 1), Bool.and_false]
      · exact ⟨_, .int (-1), rfl, fun _ => .int _, okInt ⟨by decide, by decide⟩, rfl⟩
      · exact ⟨_, .none, rfl, fun _ => .non, okNone.up (by decide) (by decide), rfl⟩
      · exact ⟨_, .bool true, rfl, fun _ => .bl _, (okBool _).up (by decide) (by decide), rfl⟩
      · exact ⟨_, .str "0", rfl, fun _ => .str _, (okStr (m := 10) (by decide +kernel)).up (by decide) (by decide), rfl⟩
    refine ⟨p1, _, _, u, rfl, rfl, SqL.of (f3 _ _ np1 ep1), hau, ?_⟩
    refine ⟨_, _, rfl, rfl, ⟨by decide, by decide, by decide⟩, _, _, rfl, rfl, ⟨by decide, by decide, by decide⟩, _, _, rfl, rfl, (by show 5 ≤ sizeLine; decide), fun p2 hp2 => ?_⟩
    generalize hg : upd H3 p2 (HO.lst _) = H4
    have s4 : Same H3 H4 := hg ▸ same_new hp2
    have ep2 : H4 p2 = some (.lst [V.int (10 ^ (30 : Int).toNat), V.int (0 - 10 ^ (30 : Int).toNat), .non, .bl false, .str "1"]) := by
      rw [← hg]
      exact upd_same
    clear hg
    have np2 := hB.ne hp2
    replace hB := hB.kp (H' := H4) fun u z => s4 _ _ z
    refine ⟨_, rfl, b, 5, m + 1 + 1, rfl, hB, by omega, by decide, by decide, fun g2 H5 b0 b1 hB k5 => ?_⟩
    have f5 : ∀ c u, c ≠ b → H4 c = some u → H5 c = some u := fun c u hc z => (k5 c hc).trans z
    obtain ⟨wv, dw, haw, hdw, okw, badw⟩ : ∃ (u : V) (du : PyData), atI [V.int (10 ^ (30 : Int).toNat), V.int (0 - 10 ^ (30 : Int).toNat), .non, .bl false, .str "1"] g2 = some u ∧ (∀ H', Dp K H' u du) ∧ Okd du 50 0 ∧ worthD du = false := by
      rcases (by omega : g2 = 0 ∨ g2 = 1 ∨ g2 = 2 ∨ g2 = 3 ∨ g2 = 4) with rfl | rfl | rfl | rfl | rfl
      · exact ⟨_, .int (10 ^ (30 : Int).toNat), rfl, fun _ => .int _, okInt ⟨by decide, by decide⟩, by decide⟩
      · exact ⟨_, .int (0 - 10 ^ (30 : Int).toNat), rfl, fun _ => .int _, okInt ⟨by decide, by decide⟩, by decide⟩
      · exact ⟨_, .none, rfl, fun _ => .non, okNone.up (by decide) (by decide), rfl⟩
      · exact ⟨_, .bool false, rfl, fun _ => .bl _, (okBool _).up (by decide) (by decide), rfl⟩
      · exact ⟨_, .str "1", rfl, fun _ => .str _, (okStr (m := 10) (by decide +kernel)).up (by decide) (by decide), rfl⟩
    refine ⟨p2, _, _, wv, rfl, rfl, SqL.of (f5 _ _ np2 ep2), haw, ?_⟩
    refine ⟨_, rfl, (by show 2 ≤ sizeLine; decide), fun t1 ht1 => ?_⟩
    generalize hg : upd H5 t1 (HO.tup _) = H6
    have s6 : Same H5 H6 := hg ▸ same_new ht1
    have et1 : H6 t1 = some (.tup [V.int 0, wv]) := by
      rw [← hg]
      exact upd_same
    clear hg
    have nt1 := hB.ne ht1
    replace hB := hB.kp (H' := H6) fun u z => s6 _ _ z
    refine ⟨(by show 1 ≤ sizeLine; decide), fun l1 hl1 => ?_⟩
    generalize hg : upd H6 l1 (HO.lst _) = H7
    have s7 : Same H6 H7 := hg ▸ same_new hl1
    have el1 : H7 l1 = some (.lst [V.ref t1]) := by
      rw [← hg]
      exact upd_same
    clear hg
    have nl1 := hB.ne hl1
    replace hB := hB.kp (H' := H7) fun u z => s7 _ _ z
    refine ⟨_, rfl, (by show 2 ≤ sizeLine; decide), fun t2 ht2 => ?_⟩
    generalize hg : upd H7 t2 (HO.tup _) = H8
    have s8 : Same H7 H8 := hg ▸ same_new ht2
    have et2 : H8 t2 = some (.tup [u, V.int 1]) := by
      rw [← hg]
      exact upd_same
    clear hg
    have nt2 := hB.ne ht2
    replace hB := hB.kp (H' := H8) fun u z => s8 _ _ z
    refine ⟨(by show 1 ≤ sizeLine; decide), fun l2 hl2 => ?_⟩
    generalize hg : upd H8 l2 (HO.lst _) = H9
    have s9 : Same H8 H9 := hg ▸ same_new hl2
    have el2 : H9 l2 = some (.lst [V.ref t2]) := by
      rw [← hg]
      exact upd_same
    clear hg
    have nl2 := hB.ne hl2
    replace hB := hB.kp (H' := H9) fun u z => s9 _ _ z
    refine ⟨(by show 2 ≤ sizeLine; decide), fun t3 ht3 => ?_⟩
    generalize hg : upd H9 t3 (HO.tup _) = H10
    have s10 : Same H9 H10 := hg ▸ same_new ht3
    have et3 : H10 t3 = some (.tup [V.int 0, V.int 1]) := by
      rw [← hg]
      exact upd_same
    clear hg
    have nt3 := hB.ne ht3
    replace hB := hB.kp (H' := H10) fun u z => s10 _ _ z
    refine ⟨(by show 1 ≤ sizeLine; decide), fun l3 hl3 => ?_⟩
    generalize hg : upd H10 l3 (HO.lst _) = H11
    have s11 : Same H10 H11 := hg ▸ same_new hl3
    have el3 : H11 l3 = some (.lst [V.ref t3]) := by
      rw [← hg]
      exact upd_same
    clear hg
    have nl3 := hB.ne hl3
    replace hB := hB.kp (H' := H11) fun u z => s11 _ _ z
    refine ⟨l3, _, _, rfl, rfl, el3, by decide, by decide, (by show 1 * 21 ≤ sizeLine; decide), fun q3 hq3 => ?_⟩
    rw [show (List.replicate ((21 : Int)).toNat [V.ref t3]).flatten = List.replicate 21 (V.ref t3) from rfl]
    generalize hg : upd H11 q3 (HO.lst _) = H12
    have s12 : Same H11 H12 := hg ▸ same_new hq3
    have eq3 : H12 q3 = some (.lst (List.replicate 21 (V.ref t3))) := by
      rw [← hg]
      exact upd_same
    clear hg
    have nq3 := hB.ne hq3
    replace hB := hB.kp (H' := H12) fun u z => s12 _ _ z
    refine ⟨(by show 2 ≤ sizeLine; decide), fun t4 ht4 => ?_⟩
    generalize hg : upd H12 t4 (HO.tup _) = H13
    have s13 : Same H12 H13 := hg ▸ same_new ht4
    have et4 : H13 t4 = some (.tup [V.int 0, V.int 1]) := by
      rw [← hg]
      exact upd_same
    clear hg
    have nt4 := hB.ne ht4
    replace hB := hB.kp (H' := H13) fun u z => s13 _ _ z
    refine ⟨(by show 2 ≤ sizeLine; decide), fun l4 hl4 => ?_⟩
    generalize hg : upd H13 l4 (HO.lst _) = H14
    have s14 : Same H13 H14 := hg ▸ same_new hl4
    have el4 : H14 l4 = some (.lst [V.int 0, V.int 1]) := by
      rw [← hg]
      exact upd_same
    clear hg
    have nl4 := hB.ne hl4
    replace hB := hB.kp (H' := H14) fun u z => s14 _ _ z
    refine ⟨(by show 2 ≤ sizeLine; decide), fun l5 hl5 => ?_⟩
    generalize hg : upd H14 l5 (HO.lst _) = H15
    have s15 : Same H14 H15 := hg ▸ same_new hl5
    have el5 : H15 l5 = some (.lst [V.ref t4, V.ref l4]) := by
      rw [← hg]
      exact upd_same
    clear hg
    have nl5 := hB.ne hl5
    replace hB := hB.kp (H' := H15) fun u z => s15 _ _ z
    refine ⟨(by show 5 ≤ sizeLine; decide), fun p3 hp3 => ?_⟩
    generalize hg : upd H15 p3 (HO.lst _) = H16
    have s16 : Same H15 H16 := hg ▸ same_new hp3
    have ep3 : H16 p3 = some (.lst [V.ref l1, V.ref l2, V.ref q3, .non, V.ref l5]) := by
      rw [← hg]
      exact upd_same
    clear hg
    have np3 := hB.ne hp3
    replace hB := hB.kp (H' := H16) fun u z => s16 _ _ z
    refine ⟨_, rfl, b, 5, m + 1 + 1 + 1, rfl, hB, by omega, by decide, by decide, fun g3 H17 c0 c1 hB k17 => ?_⟩
    have f17 : ∀ c u, c ≠ b → H16 c = some u → H17 c = some u := fun c u hc z => (k17 c hc).trans z
    replace et1 := (f17 _ _ nt1 (s16 _ _ (s15 _ _ (s14 _ _ (s13 _ _ (s12 _ _ (s11 _ _ (s10 _ _ (s9 _ _ (s8 _ _ (s7 _ _ et1)))))))))))
    replace el1 := (f17 _ _ nl1 (s16 _ _ (s15 _ _ (s14 _ _ (s13 _ _ (s12 _ _ (s11 _ _ (s10 _ _ (s9 _ _ (s8 _ _ el1))))))))))
    replace et2 := (f17 _ _ nt2 (s16 _ _ (s15 _ _ (s14 _ _ (s13 _ _ (s12 _ _ (s11 _ _ (s10 _ _ (s9 _ _ et2)))))))))
    replace el2 := (f17 _ _ nl2 (s16 _ _ (s15 _ _ (s14 _ _ (s13 _ _ (s12 _ _ (s11 _ _ (s10 _ _ el2))))))))
    replace et3 := (f17 _ _ nt3 (s16 _ _ (s15 _ _ (s14 _ _ (s13 _ _ (s12 _ _ (s11 _ _ et3)))))))
    replace eq3 := (f17 _ _ nq3 (s16 _ _ (s15 _ _ (s14 _ _ (s13 _ _ eq3)))))
    replace et4 := (f17 _ _ nt4 (s16 _ _ (s15 _ _ (s14 _ _ et4))))
    replace el4 := (f17 _ _ nl4 (s16 _ _ (s15 _ _ el4)))
    replace el5 := (f17 _ _ nl5 (s16 _ _ el5))
    have h01 : Okd (.tuple [.int 0, .int 1]) 200 1 := chOk (c := (0, 1)) (by decide) ⟨by decide, by decide⟩
    have okt : ∀ d1 d2 : PyData, Okd d1 50 0 → Okd d2 50 0 → Okd (.tuple [d1, d2]) 200 1 := fun d1 d2 h1 h2 => (okTuple (ds := [d1, d2]) (m := 50) (e := 0) (n := 2) (fun d hd => by
      rcases List.mem_cons.mp hd with rfl | hd
      · exact h1
      · rw [List.mem_singleton.mp hd]
        exact h2) (Nat.le_refl 2)).up (by decide) (by decide)
    obtain ⟨cv, dc, hac, hdc, okc, badc⟩ : ∃ (u : V) (du : PyData), atI [V.ref l1, V.ref l2, V.ref q3, .non, V.ref l5] g3 = some u ∧ (∀ H', (∀ c u, c ≠ b → H17 c = some u → H' c = some u) → Dp K H' u du) ∧ Okd du 10000 2 ∧ changesD du (n : Nat) = false := by
      rcases (by omega : g3 = 0 ∨ g3 = 1 ∨ g3 = 2 ∨ g3 = 3 ∨ g3 = 4) with rfl | rfl | rfl | rfl | rfl
      · refine ⟨_, .list [.tuple [.int 0, dw]], rfl, fun H' k => .lst (SqL.of (k _ _ nl1 el1)) (.cons (.tup (SqT.of (k _ _ nt1 et1)) (.cons (.int _) (.cons (hdw _) .nil))) .nil), (okList (ds := [.tuple [.int 0, dw]]) (m := 200) (e := 1) (n := 1) (fun d hd => ?_) (Nat.le_refl 1)).up (by decide) (by decide), ?_⟩
        · rw [List.mem_singleton.mp hd]
          exact okt _ _ (num2k (n := 0) (by decide)) okw
        · show (true && (((decide ((0 : Int) ≤ 0) && decide ((0 : Int) ≤ (n : Nat) - 1)) && worthD dw) && true)) = false
          rw [badw, Bool.and_false]
          rfl
      · refine ⟨_, .list [.tuple [du, .int 1]], rfl, fun H' k => .lst (SqL.of (k _ _ nl2 el2)) (.cons (.tup (SqT.of (k _ _ nt2 et2)) (.cons (hdu _) (.cons (.int _) .nil))) .nil), (okList (ds := [.tuple [du, .int 1]]) (m := 200) (e := 1) (n := 1) (fun d hd => ?_) (Nat.le_refl 1)).up (by decide) (by decide), ?_⟩
        · rw [List.mem_singleton.mp hd]
          exact okt _ _ oku (num2k (n := 1) (by decide))
        · show (true && ((wholeD du 0 ((n : Nat) - 1) && worthD (.int 1)) && true)) = false
          rw [badu]
          rfl
      · refine ⟨_, .list (List.replicate 21 (.tuple [.int 0, .int 1])), rfl, fun H' k => .lst (SqL.of (k _ _ nq3 eq3)) ?_, (okList (ds := List.replicate 21 (.tuple [.int 0, .int 1])) (m := 200) (e := 1) (n := 21) (fun d hd => ?_) (by rw [List.length_replicate]; exact Nat.le_refl _)).up (by decide) (by decide), rfl⟩
        · have h : ∀ k : Nat, DpAll K H' (List.replicate k (V.ref t3)) (List.replicate k (.tuple [.int 0, .int 1])) := fun j => by
            induction j with
            | zero => exact .nil
            | succ j ih => exact .cons (.tup (SqT.of (k _ _ nt3 et3)) (.cons (.int _) (.cons (.int _) .nil))) ih
          exact h 21
        · rw [List.eq_of_mem_replicate hd]
          exact h01
      · exact ⟨_, .none, rfl, fun _ _ => .non, okNone.up (by decide) (by decide), rfl⟩
      · refine ⟨_, .list [.tuple [.int 0, .int 1], .list [.int 0, .int 1]], rfl, fun H' k => .lst (SqL.of (k _ _ nl5 el5)) (.cons (.tup (SqT.of (k _ _ nt4 et4)) (.cons (.int _) (.cons (.int _) .nil))) (.cons (.lst (SqL.of (k _ _ nl4 el4)) (.cons (.int _) (.cons (.int _) .nil))) .nil)), (okList (ds := [.tuple [.int 0, .int 1], .list [.int 0, .int 1]]) (m := 200) (e := 1) (n := 2) (fun d hd => ?_) (Nat.le_refl 2)).up (by decide) (by decide), ?_⟩
        · rcases List.mem_cons.mp hd with rfl | hd
          · exact h01
          · rw [List.mem_singleton.mp hd]
            exact (okList (ds := [.int 0, .int 1]) (m := 50) (e := 0) (n := 2) (fun d hd => by
              rcases List.mem_cons.mp hd with rfl | hd
              · exact num2k (n := 0) (by decide)
              · rw [List.mem_singleton.mp hd]
                exact num2k (n := 1) (by decide)) (Nat.le_refl 2)).up (by decide) (by decide)
        · show (true && (_ && (false && true))) = false
          rw [Bool.false_and, Bool.and_false]
          rfl
    refine ⟨p3, _, _, cv, rfl, rfl, SqL.of (f17 _ _ np3 ep3), hac, ?_⟩
    refine ⟨(by show 3 ≤ sizeLine; decide), fun p4 hp4 => ?_⟩
    generalize hg : upd H17 p4 (HO.lst _) = H18
    have s18 : Same H17 H18 := hg ▸ same_new hp4
    have ep4 : H18 p4 = some (.lst [V.int 1, V.int 2, V.int 20]) := by
      rw [← hg]
      exact upd_same
    clear hg
    have np4 := hB.ne hp4
    replace hB := hB.kp (H' := H18) fun u z => s18 _ _ z
    refine ⟨_, rfl, b, 3, m + 1 + 1 + 1 + 1, rfl, hB, by omega, by decide, by decide, fun g4 H19 d0 d1 hB k19 => ?_⟩
    have f19 : ∀ c u, c ≠ b → H18 c = some u → H19 c = some u := fun c u hc z => (k19 c hc).trans z
    obtain ⟨kk, hak, k1', k2'⟩ : ∃ kk : Nat, atI [V.int 1, V.int 2, V.int 20] g4 = some (num kk) ∧ 1 ≤ kk ∧ kk ≤ 20 := by
      rcases (by omega : g4 = 0 ∨ g4 = 1 ∨ g4 = 2) with rfl | rfl | rfl
      · exact ⟨1, rfl, by decide, by decide⟩
      · exact ⟨2, rfl, by decide, by decide⟩
      · exact ⟨20, rfl, by decide, by decide⟩
    refine ⟨p4, _, _, num kk, rfl, rfl, SqL.of (f19 _ _ np4 ep4), hak, ?_⟩
    refine ⟨_, rfl, (by show 3 ≤ sizeLine; decide), fun x1 hx1 => ?_⟩
    generalize hg : upd H19 x1 (HO.tup _) = H20
    have s20 : Same H19 H20 := hg ▸ same_new hx1
    have ex1 : H20 x1 = some (.tup [num i, V.int 0, V.int 7]) := by
      rw [← hg]
      exact upd_same
    clear hg
    have nx1 := hB.ne hx1
    replace hB := hB.kp (H' := H20) fun u z => s20 _ _ z
    refine ⟨_, rfl, (by show 2 ≤ sizeLine; decide), fun y1 hy1 => ?_⟩
    generalize hg : upd H20 y1 (HO.lst _) = H21
    have s21 : Same H20 H21 := hg ▸ same_new hy1
    have ey1 : H21 y1 = some (.lst [V.str "elder", num i]) := by
      rw [← hg]
      exact upd_same
    clear hg
    have ny1 := hB.ne hy1
    replace hB := hB.kp (H' := H21) fun u z => s21 _ _ z
    refine ⟨(by show 2 ≤ sizeLine; decide), fun r1 hr1 => ?_⟩
    generalize hg : upd H21 r1 (HO.tup _) = H22
    have s22 : Same H21 H22 := hg ▸ same_new hr1
    have er1 : H22 r1 = some (.tup [V.ref x1, V.ref y1]) := by
      rw [← hg]
      exact upd_same
    clear hg
    have nr1 := hB.ne hr1
    replace hB := hB.kp (H' := H22) fun u z => s22 _ _ z
    refine ⟨_, rfl, _, rfl, _, _, rfl, rfl, _, _, rfl, rfl, (by show 3 ≤ sizeLine; decide), fun x2 hx2 => ?_⟩
    generalize hg : upd H22 x2 (HO.tup _) = H23
    have s23 : Same H22 H23 := hg ▸ same_new hx2
    have ex2 : H23 x2 = some (.tup [num i, V.int (((n : Nat) : Int) - 1), V.int (0 - 7)]) := by
      rw [← hg]
      exact upd_same
    clear hg
    have nx2 := hB.ne hx2
    replace hB := hB.kp (H' := H23) fun u z => s23 _ _ z
    refine ⟨_, rfl, (by show 2 ≤ sizeLine; decide), fun y2 hy2 => ?_⟩
    generalize hg : upd H23 y2 (HO.lst _) = H24
    have s24 : Same H23 H24 := hg ▸ same_new hy2
    have ey2 : H24 y2 = some (.lst [V.str "elder", num i]) := by
      rw [← hg]
      exact upd_same
    clear hg
    have ny2 := hB.ne hy2
    replace hB := hB.kp (H' := H24) fun u z => s24 _ _ z
    refine ⟨(by show 2 ≤ sizeLine; decide), fun r2 hr2 => ?_⟩
    generalize hg : upd H24 r2 (HO.tup _) = H25
    have s25 : Same H24 H25 := hg ▸ same_new hr2
    have er2 : H25 r2 = some (.tup [V.ref x2, V.ref y2]) := by
      rw [← hg]
      exact upd_same
    clear hg
    have nr2 := hB.ne hr2
    replace hB := hB.kp (H' := H25) fun u z => s25 _ _ z
    refine ⟨(by show 2 ≤ sizeLine; decide), fun S1 hS1 => ?_⟩
    generalize hg : upd H25 S1 (HO.lst _) = H26
    have s26 : Same H25 H26 := hg ▸ same_new hS1
    have eS1 : H26 S1 = some (.lst [V.ref r1, V.ref r2]) := by
      rw [← hg]
      exact upd_same
    clear hg
    have nS1 := hB.ne hS1
    replace hB := hB.kp (H' := H26) fun u z => s26 _ _ z
    refine ⟨_, rfl, _, rfl, _, rfl, _, rfl, (by show 3 ≤ sizeLine; decide), fun x3 hx3 => ?_⟩
    generalize hg : upd H26 x3 (HO.tup _) = H27
    have s27 : Same H26 H27 := hg ▸ same_new hx3
    have ex3 : H27 x3 = some (.tup [num i, u, wv]) := by
      rw [← hg]
      exact upd_same
    clear hg
    have nx3 := hB.ne hx3
    replace hB := hB.kp (H' := H27) fun u z => s27 _ _ z
    refine ⟨_, rfl, (by show 2 ≤ sizeLine; decide), fun y3 hy3 => ?_⟩
    generalize hg : upd H27 y3 (HO.lst _) = H28
    have s28 : Same H27 H28 := hg ▸ same_new hy3
    have ey3 : H28 y3 = some (.lst [V.str "place", u]) := by
      rw [← hg]
      exact upd_same
    clear hg
    have ny3 := hB.ne hy3
    replace hB := hB.kp (H' := H28) fun u z => s28 _ _ z
    refine ⟨(by show 2 ≤ sizeLine; decide), fun r3 hr3 => ?_⟩
    generalize hg : upd H28 r3 (HO.tup _) = H29
    have s29 : Same H28 H29 := hg ▸ same_new hr3
    have er3 : H29 r3 = some (.tup [V.ref x3, V.ref y3]) := by
      rw [← hg]
      exact upd_same
    clear hg
    have nr3 := hB.ne hr3
    replace hB := hB.kp (H' := H29) fun u z => s29 _ _ z
    refine ⟨_, rfl, _, rfl, (by show 3 ≤ sizeLine; decide), fun x4 hx4 => ?_⟩
    generalize hg : upd H29 x4 (HO.tup _) = H30
    have s30 : Same H29 H30 := hg ▸ same_new hx4
    have ex4 : H30 x4 = some (.tup [num i, V.int 1, wv]) := by
      rw [← hg]
      exact upd_same
    clear hg
    have nx4 := hB.ne hx4
    replace hB := hB.kp (H' := H30) fun u z => s30 _ _ z
    refine ⟨_, rfl, (by show 2 ≤ sizeLine; decide), fun y4 hy4 => ?_⟩
    generalize hg : upd H30 y4 (HO.lst _) = H31
    have s31 : Same H30 H31 := hg ▸ same_new hy4
    have ey4 : H31 y4 = some (.lst [V.str "worth", wv]) := by
      rw [← hg]
      exact upd_same
    clear hg
    have ny4 := hB.ne hy4
    replace hB := hB.kp (H' := H31) fun u z => s31 _ _ z
    refine ⟨(by show 2 ≤ sizeLine; decide), fun r4 hr4 => ?_⟩
    generalize hg : upd H31 r4 (HO.tup _) = H32
    have s32 : Same H31 H32 := hg ▸ same_new hr4
    have er4 : H32 r4 = some (.tup [V.ref x4, V.ref y4]) := by
      rw [← hg]
      exact upd_same
    clear hg
    have nr4 := hB.ne hr4
    replace hB := hB.kp (H' := H32) fun u z => s32 _ _ z
    refine ⟨(by show 2 ≤ sizeLine; decide), fun Q2 hQ2 => ?_⟩
    generalize hg : upd H32 Q2 (HO.lst _) = H33
    have s33 : Same H32 H33 := hg ▸ same_new hQ2
    have eQ2 : H33 Q2 = some (.lst [V.ref r3, V.ref r4]) := by
      rw [← hg]
      exact upd_same
    clear hg
    have nQ2 := hB.ne hQ2
    replace hB := hB.kp (H' := H33) fun u z => s33 _ _ z
    refine ⟨S1, Q2, _, _, rfl, rfl, (s33 _ _ (s32 _ _ (s31 _ _ (s30 _ _ (s29 _ _ (s28 _ _ (s27 _ _ eS1))))))), eQ2, (by show 4 ≤ sizeLine; decide), fun S2 hS2 => ?_⟩
    generalize hg : upd H33 S2 (HO.lst _) = H34
    have s34 : Same H33 H34 := hg ▸ same_new hS2
    have eS2 : H34 S2 = some (.lst [V.ref r1, V.ref r2, V.ref r3, V.ref r4]) := by
      rw [← hg]
      exact upd_same
    clear hg
    have nS2 := hB.ne hS2
    replace hB := hB.kp (H' := H34) fun u z => s34 _ _ z
    refine ⟨_, rfl, _, rfl, _, rfl, (by show 2 ≤ sizeLine; decide), fun x5 hx5 => ?_⟩
    generalize hg : upd H34 x5 (HO.tup _) = H35
    have s35 : Same H34 H35 := hg ▸ same_new hx5
    have ex5 : H35 x5 = some (.tup [num i, cv]) := by
      rw [← hg]
      exact upd_same
    clear hg
    have nx5 := hB.ne hx5
    replace hB := hB.kp (H' := H35) fun u z => s35 _ _ z
    refine ⟨_, rfl, (by show 2 ≤ sizeLine; decide), fun y5 hy5 => ?_⟩
    generalize hg : upd H35 y5 (HO.lst _) = H36
    have s36 : Same H35 H36 := hg ▸ same_new hy5
    have ey5 : H36 y5 = some (.lst [V.str "changes", cv]) := by
      rw [← hg]
      exact upd_same
    clear hg
    have ny5 := hB.ne hy5
    replace hB := hB.kp (H' := H36) fun u z => s36 _ _ z
    refine ⟨(by show 2 ≤ sizeLine; decide), fun r5 hr5 => ?_⟩
    generalize hg : upd H36 r5 (HO.tup _) = H37
    have s37 : Same H36 H37 := hg ▸ same_new hr5
    have er5 : H37 r5 = some (.tup [V.ref x5, V.ref y5]) := by
      rw [← hg]
      exact upd_same
    clear hg
    have nr5 := hB.ne hr5
    replace hB := hB.kp (H' := H37) fun u z => s37 _ _ z
    refine ⟨_, rfl, (by show 2 ≤ sizeLine; decide), fun t6 ht6 => ?_⟩
    generalize hg : upd H37 t6 (HO.tup _) = H38
    have s38 : Same H37 H38 := hg ▸ same_new ht6
    have et6 : H38 t6 = some (.tup [V.int 0, V.int 1]) := by
      rw [← hg]
      exact upd_same
    clear hg
    have nt6 := hB.ne ht6
    replace hB := hB.kp (H' := H38) fun u z => s38 _ _ z
    refine ⟨(by show 1 ≤ sizeLine; decide), fun l6 hl6 => ?_⟩
    generalize hg : upd H38 l6 (HO.lst _) = H39
    have s39 : Same H38 H39 := hg ▸ same_new hl6
    have el6 : H39 l6 = some (.lst [V.ref t6]) := by
      rw [← hg]
      exact upd_same
    clear hg
    have nl6 := hB.ne hl6
    replace hB := hB.kp (H' := H39) fun u z => s39 _ _ z
    refine ⟨_, rfl, l6, _, _, rfl, rfl, el6, by omega, by omega, (by rw [Int.toNat_natCast]; show 1 * kk ≤ sizeLine; exact Nat.le_trans (show 1 * kk ≤ 20 by omega) (by decide)), fun q6 hq6 => ?_⟩
    rw [show (List.replicate (((kk : Nat) : Int)).toNat [V.ref t6]).flatten = List.replicate kk (V.ref t6) from by rw [Int.toNat_natCast, rep_flat]]
    generalize hg : upd H39 q6 (HO.lst _) = H40
    have s40 : Same H39 H40 := hg ▸ same_new hq6
    have eq6 : H40 q6 = some (.lst (List.replicate kk (V.ref t6))) := by
      rw [← hg]
      exact upd_same
    clear hg
    have nq6 := hB.ne hq6
    replace hB := hB.kp (H' := H40) fun u z => s40 _ _ z
    refine ⟨(by show 2 ≤ sizeLine; decide), fun x6 hx6 => ?_⟩
    generalize hg : upd H40 x6 (HO.tup _) = H41
    have s41 : Same H40 H41 := hg ▸ same_new hx6
    have ex6 : H41 x6 = some (.tup [num i, V.ref q6]) := by
      rw [← hg]
      exact upd_same
    clear hg
    have nx6 := hB.ne hx6
    replace hB := hB.kp (H' := H41) fun u z => s41 _ _ z
    refine ⟨_, rfl, (by show 2 ≤ sizeLine; decide), fun y6 hy6 => ?_⟩
    generalize hg : upd H41 y6 (HO.lst _) = H42
    have s42 : Same H41 H42 := hg ▸ same_new hy6
    have ey6 : H42 y6 = some (.lst [V.str "elder", num i]) := by
      rw [← hg]
      exact upd_same
    clear hg
    have ny6 := hB.ne hy6
    replace hB := hB.kp (H' := H42) fun u z => s42 _ _ z
    refine ⟨(by show 2 ≤ sizeLine; decide), fun r6 hr6 => ?_⟩
    generalize hg : upd H42 r6 (HO.tup _) = H43
    have s43 : Same H42 H43 := hg ▸ same_new hr6
    have er6 : H43 r6 = some (.tup [V.ref x6, V.ref y6]) := by
      rw [← hg]
      exact upd_same
    clear hg
    have nr6 := hB.ne hr6
    replace hB := hB.kp (H' := H43) fun u z => s43 _ _ z
    refine ⟨(by show 2 ≤ sizeLine; decide), fun Q3 hQ3 => ?_⟩
    generalize hg : upd H43 Q3 (HO.lst _) = H44
    have s44 : Same H43 H44 := hg ▸ same_new hQ3
    have eQ3 : H44 Q3 = some (.lst [V.ref r5, V.ref r6]) := by
      rw [← hg]
      exact upd_same
    clear hg
    have nQ3 := hB.ne hQ3
    replace hB := hB.kp (H' := H44) fun u z => s44 _ _ z
    refine ⟨S2, Q3, _, _, rfl, rfl, (s44 _ _ (s43 _ _ (s42 _ _ (s41 _ _ (s40 _ _ (s39 _ _ (s38 _ _ (s37 _ _ (s36 _ _ (s35 _ _ eS2)))))))))), eQ3, (by show 6 ≤ sizeLine; decide), fun S3 hS3 => ?_⟩
    generalize hg : upd H44 S3 (HO.lst _) = H45
    have s45 : Same H44 H45 := hg ▸ same_new hS3
    have eS3 : H45 S3 = some (.lst [V.ref r1, V.ref r2, V.ref r3, V.ref r4, V.ref r5, V.ref r6]) := by
      rw [← hg]
      exact upd_same
    clear hg
    have nS3 := hB.ne hS3
    replace hB := hB.kp (H' := H45) fun u z => s45 _ _ z
    refine ⟨_, rfl, _, rfl, (by show 0 ≤ sizeLine; decide), fun e7 he7 => ?_⟩
    generalize hg : upd H45 e7 (HO.tup _) = H46
    have s46 : Same H45 H46 := hg ▸ same_new he7
    have ee7 : H46 e7 = some (.tup []) := by
      rw [← hg]
      exact upd_same
    clear hg
    have ne7 := hB.ne he7
    replace hB := hB.kp (H' := H46) fun u z => s46 _ _ z
    refine ⟨(by show 2 ≤ sizeLine; decide), fun x7 hx7 => ?_⟩
    generalize hg : upd H46 x7 (HO.tup _) = H47
    have s47 : Same H46 H47 := hg ▸ same_new hx7
    have ex7 : H47 x7 = some (.tup [num i, V.ref e7]) := by
      rw [← hg]
      exact upd_same
    clear hg
    have nx7 := hB.ne hx7
    replace hB := hB.kp (H' := H47) fun u z => s47 _ _ z
    refine ⟨(by show 0 ≤ sizeLine; decide), fun n7 hn7 => ?_⟩
    generalize hg : upd H47 n7 (HO.lst _) = H48
    have s48 : Same H47 H48 := hg ▸ same_new hn7
    have en7 : H48 n7 = some (.lst []) := by
      rw [← hg]
      exact upd_same
    clear hg
    have nn7 := hB.ne hn7
    replace hB := hB.kp (H' := H48) fun u z => s48 _ _ z
    refine ⟨(by show 2 ≤ sizeLine; decide), fun y7 hy7 => ?_⟩
    generalize hg : upd H48 y7 (HO.lst _) = H49
    have s49 : Same H48 H49 := hg ▸ same_new hy7
    have ey7 : H49 y7 = some (.lst [V.str "told", V.ref n7]) := by
      rw [← hg]
      exact upd_same
    clear hg
    have ny7 := hB.ne hy7
    replace hB := hB.kp (H' := H49) fun u z => s49 _ _ z
    refine ⟨(by show 2 ≤ sizeLine; decide), fun r7 hr7 => ?_⟩
    generalize hg : upd H49 r7 (HO.tup _) = H50
    have s50 : Same H49 H50 := hg ▸ same_new hr7
    have er7 : H50 r7 = some (.tup [V.ref x7, V.ref y7]) := by
      rw [← hg]
      exact upd_same
    clear hg
    have nr7 := hB.ne hr7
    replace hB := hB.kp (H' := H50) fun u z => s50 _ _ z
    refine ⟨_, rfl, _, rfl, _, rfl, (by show 3 ≤ sizeLine; decide), fun x8 hx8 => ?_⟩
    generalize hg : upd H50 x8 (HO.tup _) = H51
    have s51 : Same H50 H51 := hg ▸ same_new hx8
    have ex8 : H51 x8 = some (.tup [v, u, wv]) := by
      rw [← hg]
      exact upd_same
    clear hg
    have nx8 := hB.ne hx8
    replace hB := hB.kp (H' := H51) fun u z => s51 _ _ z
    refine ⟨_, rfl, (by show 2 ≤ sizeLine; decide), fun y8 hy8 => ?_⟩
    generalize hg : upd H51 y8 (HO.lst _) = H52
    have s52 : Same H51 H52 := hg ▸ same_new hy8
    have ey8 : H52 y8 = some (.lst [V.str "make", v]) := by
      rw [← hg]
      exact upd_same
    clear hg
    have ny8 := hB.ne hy8
    replace hB := hB.kp (H' := H52) fun u z => s52 _ _ z
    refine ⟨(by show 2 ≤ sizeLine; decide), fun r8 hr8 => ?_⟩
    generalize hg : upd H52 r8 (HO.tup _) = H53
    have s53 : Same H52 H53 := hg ▸ same_new hr8
    have er8 : H53 r8 = some (.tup [V.ref x8, V.ref y8]) := by
      rw [← hg]
      exact upd_same
    clear hg
    have nr8 := hB.ne hr8
    replace hB := hB.kp (H' := H53) fun u z => s53 _ _ z
    refine ⟨(by show 2 ≤ sizeLine; decide), fun Q4 hQ4 => ?_⟩
    generalize hg : upd H53 Q4 (HO.lst _) = H54
    have s54 : Same H53 H54 := hg ▸ same_new hQ4
    have eQ4 : H54 Q4 = some (.lst [V.ref r7, V.ref r8]) := by
      rw [← hg]
      exact upd_same
    clear hg
    have nQ4 := hB.ne hQ4
    replace hB := hB.kp (H' := H54) fun u z => s54 _ _ z
    refine ⟨S3, Q4, _, _, rfl, rfl, (s54 _ _ (s53 _ _ (s52 _ _ (s51 _ _ (s50 _ _ (s49 _ _ (s48 _ _ (s47 _ _ (s46 _ _ eS3))))))))), eQ4, (by show 8 ≤ sizeLine; decide), fun S4 hS4 => ?_⟩
    generalize hg : upd H54 S4 (HO.lst _) = H55
    have s55 : Same H54 H55 := hg ▸ same_new hS4
    have eS4 : H55 S4 = some (.lst [V.ref r1, V.ref r2, V.ref r3, V.ref r4, V.ref r5, V.ref r6, V.ref r7, V.ref r8]) := by
      rw [← hg]
      exact upd_same
    clear hg
    have nS4 := hB.ne hS4
    replace hB := hB.kp (H' := H55) fun u z => s55 _ _ z
    replace hdc : ∀ H2, Same H55 H2 → Dp K H2 cv dc := fun H2 s2 => hdc H2 fun c u hc z => s2 _ _ ((fun c u hc z => (s55 _ _ (s54 _ _ (s53 _ _ (s52 _ _ (s51 _ _ (s50 _ _ (s49 _ _ (s48 _ _ (s47 _ _ (s46 _ _ (s45 _ _ (s44 _ _ (s43 _ _ (s42 _ _ (s41 _ _ (s40 _ _ (s39 _ _ (s38 _ _ (s37 _ _ (s36 _ _ (s35 _ _ (s34 _ _ (s33 _ _ (s32 _ _ (s31 _ _ (s30 _ _ (s29 _ _ (s28 _ _ (s27 _ _ (s26 _ _ (s25 _ _ (s24 _ _ (s23 _ _ (s22 _ _ (s21 _ _ (s20 _ _ (f19 _ _ hc (s18 _ _ z))))))))))))))))))))))))))))))))))))))) c u hc z)
    have kF : ∀ c u, c ≠ b → H c = some u → H55 c = some u := fun c u hc z => (s55 _ _ (s54 _ _ (s53 _ _ (s52 _ _ (s51 _ _ (s50 _ _ (s49 _ _ (s48 _ _ (s47 _ _ (s46 _ _ (s45 _ _ (s44 _ _ (s43 _ _ (s42 _ _ (s41 _ _ (s40 _ _ (s39 _ _ (s38 _ _ (s37 _ _ (s36 _ _ (s35 _ _ (s34 _ _ (s33 _ _ (s32 _ _ (s31 _ _ (s30 _ _ (s29 _ _ (s28 _ _ (s27 _ _ (s26 _ _ (s25 _ _ (s24 _ _ (s23 _ _ (s22 _ _ (s21 _ _ (s20 _ _ (f19 _ _ hc (s18 _ _ (f17 _ _ hc (s16 _ _ (s15 _ _ (s14 _ _ (s13 _ _ (s12 _ _ (s11 _ _ (s10 _ _ (s9 _ _ (s8 _ _ (s7 _ _ (s6 _ _ (f5 _ _ hc (s4 _ _ (f3 _ _ hc (s2 _ _ (f1 _ _ hc z)))))))))))))))))))))))))))))))))))))))))))))))))))))))
    replace er1 : H55 r1 = _ := (s55 _ _ (s54 _ _ (s53 _ _ (s52 _ _ (s51 _ _ (s50 _ _ (s49 _ _ (s48 _ _ (s47 _ _ (s46 _ _ (s45 _ _ (s44 _ _ (s43 _ _ (s42 _ _ (s41 _ _ (s40 _ _ (s39 _ _ (s38 _ _ (s37 _ _ (s36 _ _ (s35 _ _ (s34 _ _ (s33 _ _ (s32 _ _ (s31 _ _ (s30 _ _ (s29 _ _ (s28 _ _ (s27 _ _ (s26 _ _ (s25 _ _ (s24 _ _ (s23 _ _ er1)))))))))))))))))))))))))))))))))
    replace er2 : H55 r2 = _ := (s55 _ _ (s54 _ _ (s53 _ _ (s52 _ _ (s51 _ _ (s50 _ _ (s49 _ _ (s48 _ _ (s47 _ _ (s46 _ _ (s45 _ _ (s44 _ _ (s43 _ _ (s42 _ _ (s41 _ _ (s40 _ _ (s39 _ _ (s38 _ _ (s37 _ _ (s36 _ _ (s35 _ _ (s34 _ _ (s33 _ _ (s32 _ _ (s31 _ _ (s30 _ _ (s29 _ _ (s28 _ _ (s27 _ _ (s26 _ _ er2))))))))))))))))))))))))))))))
    replace er3 : H55 r3 = _ := (s55 _ _ (s54 _ _ (s53 _ _ (s52 _ _ (s51 _ _ (s50 _ _ (s49 _ _ (s48 _ _ (s47 _ _ (s46 _ _ (s45 _ _ (s44 _ _ (s43 _ _ (s42 _ _ (s41 _ _ (s40 _ _ (s39 _ _ (s38 _ _ (s37 _ _ (s36 _ _ (s35 _ _ (s34 _ _ (s33 _ _ (s32 _ _ (s31 _ _ (s30 _ _ er3))))))))))))))))))))))))))
    replace er4 : H55 r4 = _ := (s55 _ _ (s54 _ _ (s53 _ _ (s52 _ _ (s51 _ _ (s50 _ _ (s49 _ _ (s48 _ _ (s47 _ _ (s46 _ _ (s45 _ _ (s44 _ _ (s43 _ _ (s42 _ _ (s41 _ _ (s40 _ _ (s39 _ _ (s38 _ _ (s37 _ _ (s36 _ _ (s35 _ _ (s34 _ _ (s33 _ _ er4)))))))))))))))))))))))
    replace er5 : H55 r5 = _ := (s55 _ _ (s54 _ _ (s53 _ _ (s52 _ _ (s51 _ _ (s50 _ _ (s49 _ _ (s48 _ _ (s47 _ _ (s46 _ _ (s45 _ _ (s44 _ _ (s43 _ _ (s42 _ _ (s41 _ _ (s40 _ _ (s39 _ _ (s38 _ _ er5))))))))))))))))))
    replace er6 : H55 r6 = _ := (s55 _ _ (s54 _ _ (s53 _ _ (s52 _ _ (s51 _ _ (s50 _ _ (s49 _ _ (s48 _ _ (s47 _ _ (s46 _ _ (s45 _ _ (s44 _ _ er6))))))))))))
    replace er7 : H55 r7 = _ := (s55 _ _ (s54 _ _ (s53 _ _ (s52 _ _ (s51 _ _ er7)))))
    replace er8 : H55 r8 = _ := (s55 _ _ (s54 _ _ er8))
    replace ex1 : H55 x1 = _ := (s55 _ _ (s54 _ _ (s53 _ _ (s52 _ _ (s51 _ _ (s50 _ _ (s49 _ _ (s48 _ _ (s47 _ _ (s46 _ _ (s45 _ _ (s44 _ _ (s43 _ _ (s42 _ _ (s41 _ _ (s40 _ _ (s39 _ _ (s38 _ _ (s37 _ _ (s36 _ _ (s35 _ _ (s34 _ _ (s33 _ _ (s32 _ _ (s31 _ _ (s30 _ _ (s29 _ _ (s28 _ _ (s27 _ _ (s26 _ _ (s25 _ _ (s24 _ _ (s23 _ _ (s22 _ _ (s21 _ _ ex1)))))))))))))))))))))))))))))))))))
    replace ex2 : H55 x2 = _ := (s55 _ _ (s54 _ _ (s53 _ _ (s52 _ _ (s51 _ _ (s50 _ _ (s49 _ _ (s48 _ _ (s47 _ _ (s46 _ _ (s45 _ _ (s44 _ _ (s43 _ _ (s42 _ _ (s41 _ _ (s40 _ _ (s39 _ _ (s38 _ _ (s37 _ _ (s36 _ _ (s35 _ _ (s34 _ _ (s33 _ _ (s32 _ _ (s31 _ _ (s30 _ _ (s29 _ _ (s28 _ _ (s27 _ _ (s26 _ _ (s25 _ _ (s24 _ _ ex2))))))))))))))))))))))))))))))))
    replace ex3 : H55 x3 = _ := (s55 _ _ (s54 _ _ (s53 _ _ (s52 _ _ (s51 _ _ (s50 _ _ (s49 _ _ (s48 _ _ (s47 _ _ (s46 _ _ (s45 _ _ (s44 _ _ (s43 _ _ (s42 _ _ (s41 _ _ (s40 _ _ (s39 _ _ (s38 _ _ (s37 _ _ (s36 _ _ (s35 _ _ (s34 _ _ (s33 _ _ (s32 _ _ (s31 _ _ (s30 _ _ (s29 _ _ (s28 _ _ ex3))))))))))))))))))))))))))))
    replace ex4 : H55 x4 = _ := (s55 _ _ (s54 _ _ (s53 _ _ (s52 _ _ (s51 _ _ (s50 _ _ (s49 _ _ (s48 _ _ (s47 _ _ (s46 _ _ (s45 _ _ (s44 _ _ (s43 _ _ (s42 _ _ (s41 _ _ (s40 _ _ (s39 _ _ (s38 _ _ (s37 _ _ (s36 _ _ (s35 _ _ (s34 _ _ (s33 _ _ (s32 _ _ (s31 _ _ ex4)))))))))))))))))))))))))
    replace ex5 : H55 x5 = _ := (s55 _ _ (s54 _ _ (s53 _ _ (s52 _ _ (s51 _ _ (s50 _ _ (s49 _ _ (s48 _ _ (s47 _ _ (s46 _ _ (s45 _ _ (s44 _ _ (s43 _ _ (s42 _ _ (s41 _ _ (s40 _ _ (s39 _ _ (s38 _ _ (s37 _ _ (s36 _ _ ex5))))))))))))))))))))
    replace ex6 : H55 x6 = _ := (s55 _ _ (s54 _ _ (s53 _ _ (s52 _ _ (s51 _ _ (s50 _ _ (s49 _ _ (s48 _ _ (s47 _ _ (s46 _ _ (s45 _ _ (s44 _ _ (s43 _ _ (s42 _ _ ex6))))))))))))))
    replace ex7 : H55 x7 = _ := (s55 _ _ (s54 _ _ (s53 _ _ (s52 _ _ (s51 _ _ (s50 _ _ (s49 _ _ (s48 _ _ ex7))))))))
    replace ex8 : H55 x8 = _ := (s55 _ _ (s54 _ _ (s53 _ _ (s52 _ _ ex8))))
    replace ey1 : H55 y1 = _ := (s55 _ _ (s54 _ _ (s53 _ _ (s52 _ _ (s51 _ _ (s50 _ _ (s49 _ _ (s48 _ _ (s47 _ _ (s46 _ _ (s45 _ _ (s44 _ _ (s43 _ _ (s42 _ _ (s41 _ _ (s40 _ _ (s39 _ _ (s38 _ _ (s37 _ _ (s36 _ _ (s35 _ _ (s34 _ _ (s33 _ _ (s32 _ _ (s31 _ _ (s30 _ _ (s29 _ _ (s28 _ _ (s27 _ _ (s26 _ _ (s25 _ _ (s24 _ _ (s23 _ _ (s22 _ _ ey1))))))))))))))))))))))))))))))))))
    replace ey2 : H55 y2 = _ := (s55 _ _ (s54 _ _ (s53 _ _ (s52 _ _ (s51 _ _ (s50 _ _ (s49 _ _ (s48 _ _ (s47 _ _ (s46 _ _ (s45 _ _ (s44 _ _ (s43 _ _ (s42 _ _ (s41 _ _ (s40 _ _ (s39 _ _ (s38 _ _ (s37 _ _ (s36 _ _ (s35 _ _ (s34 _ _ (s33 _ _ (s32 _ _ (s31 _ _ (s30 _ _ (s29 _ _ (s28 _ _ (s27 _ _ (s26 _ _ (s25 _ _ ey2)))))))))))))))))))))))))))))))
    replace ey3 : H55 y3 = _ := (s55 _ _ (s54 _ _ (s53 _ _ (s52 _ _ (s51 _ _ (s50 _ _ (s49 _ _ (s48 _ _ (s47 _ _ (s46 _ _ (s45 _ _ (s44 _ _ (s43 _ _ (s42 _ _ (s41 _ _ (s40 _ _ (s39 _ _ (s38 _ _ (s37 _ _ (s36 _ _ (s35 _ _ (s34 _ _ (s33 _ _ (s32 _ _ (s31 _ _ (s30 _ _ (s29 _ _ ey3)))))))))))))))))))))))))))
    replace ey4 : H55 y4 = _ := (s55 _ _ (s54 _ _ (s53 _ _ (s52 _ _ (s51 _ _ (s50 _ _ (s49 _ _ (s48 _ _ (s47 _ _ (s46 _ _ (s45 _ _ (s44 _ _ (s43 _ _ (s42 _ _ (s41 _ _ (s40 _ _ (s39 _ _ (s38 _ _ (s37 _ _ (s36 _ _ (s35 _ _ (s34 _ _ (s33 _ _ (s32 _ _ ey4))))))))))))))))))))))))
    replace ey5 : H55 y5 = _ := (s55 _ _ (s54 _ _ (s53 _ _ (s52 _ _ (s51 _ _ (s50 _ _ (s49 _ _ (s48 _ _ (s47 _ _ (s46 _ _ (s45 _ _ (s44 _ _ (s43 _ _ (s42 _ _ (s41 _ _ (s40 _ _ (s39 _ _ (s38 _ _ (s37 _ _ ey5)))))))))))))))))))
    replace ey6 : H55 y6 = _ := (s55 _ _ (s54 _ _ (s53 _ _ (s52 _ _ (s51 _ _ (s50 _ _ (s49 _ _ (s48 _ _ (s47 _ _ (s46 _ _ (s45 _ _ (s44 _ _ (s43 _ _ ey6)))))))))))))
    replace ey7 : H55 y7 = _ := (s55 _ _ (s54 _ _ (s53 _ _ (s52 _ _ (s51 _ _ (s50 _ _ ey7))))))
    replace ey8 : H55 y8 = _ := (s55 _ _ (s54 _ _ (s53 _ _ ey8)))
    replace et6 : H55 t6 = _ := (s55 _ _ (s54 _ _ (s53 _ _ (s52 _ _ (s51 _ _ (s50 _ _ (s49 _ _ (s48 _ _ (s47 _ _ (s46 _ _ (s45 _ _ (s44 _ _ (s43 _ _ (s42 _ _ (s41 _ _ (s40 _ _ (s39 _ _ et6)))))))))))))))))
    replace eq6 : H55 q6 = _ := (s55 _ _ (s54 _ _ (s53 _ _ (s52 _ _ (s51 _ _ (s50 _ _ (s49 _ _ (s48 _ _ (s47 _ _ (s46 _ _ (s45 _ _ (s44 _ _ (s43 _ _ (s42 _ _ (s41 _ _ eq6)))))))))))))))
    replace ee7 : H55 e7 = _ := (s55 _ _ (s54 _ _ (s53 _ _ (s52 _ _ (s51 _ _ (s50 _ _ (s49 _ _ (s48 _ _ (s47 _ _ ee7)))))))))
    replace en7 : H55 n7 = _ := (s55 _ _ (s54 _ _ (s53 _ _ (s52 _ _ (s51 _ _ (s50 _ _ (s49 _ _ en7)))))))
    have eS := eS4
    replace hB := hB.up (show m + 1 + 1 + 1 + 1 + 1 ≤ m + 10 by omega)
    clear s55 s54 s53 s52 s51 s50 s49 s48 s47 s46 s45 s44 s43 s42 s41 s40 s39 s38 s37 s36 s35 s34 s33 s32 s31 s30 s29 s28 s27 s26 s25 s24 s23 s22 s21 s20 f19 s18 f17 s16 s15 s14 s13 s12 s11 s10 s9 s8 s7 s6 f5 s4 f3 s2 f1
    have okv : ∀ (wd : Str) (d : PyData), Okd d 10000 2 → Okd (.str wd) 50 0 → Okd (.list [.str wd, d]) 60000 5 := fun wd d h1 h2 => (okList (ds := [.str wd, d]) (m := 10000) (e := 2) (n := 2) (fun x hx => by
      rcases List.mem_cons.mp hx with rfl | hx
      · exact h2.up (by decide) (by decide)
      · rw [List.mem_singleton.mp hx]
        exact h1) (Nat.le_refl 2)).up (by decide) (by decide)
    have oki : Okd (.int ((i : Nat) : Int)) 10000 2 := (num2k (by omega)).up (by decide) (by decide)
    have okel : Okd (.str "elder") 50 0 := (okStr (m := 10) (by decide +kernel)).up (by decide) (by decide)
    have okpl : Okd (.str "place") 50 0 := (okStr (m := 10) (by decide +kernel)).up (by decide) (by decide)
    have okwo : Okd (.str "worth") 50 0 := (okStr (m := 10) (by decide +kernel)).up (by decide) (by decide)
    have okch : Okd (.str "changes") 50 0 := (okStr (m := 20) (by decide +kernel)).up (by decide) (by decide)
    have okmk : Okd (.str "make") 50 0 := (okStr (m := 10) (by decide +kernel)).up (by decide) (by decide)
    have dn : ∀ (H2 : Hp) (wd : Str) (v : V) (d : PyData), Dp K H2 v d → DpAll K H2 [.str wd, v] [.str wd, d] := fun H2 wd v d h => .cons (.str _) (.cons h .nil)
    have hn1 : V.int (((n : Nat) : Int) - 1) = num (n - 1) := by
      show V.int _ = V.int _
      congr 1
      omega
    have hcase := (by omega : way = 0 ∨ way = 1 ∨ way = 2 ∨ way = 3 ∨ way = 4 ∨ way = 5 ∨ way = 6 ∨ way = 7)
    rcases hcase with rfl | rfl | rfl | rfl | rfl | rfl | rfl | rfl
    · refine ⟨_, rfl, _, rfl, S4, _, _, .ref r1, rfl, rfl, SqL.of eS, rfl, ?_⟩
      exact q r1 x1 y1 _ _ er1 ex1 (.inl ⟨CA, _, _, _, .inl (.inr (.inr (.inr (.inl ⟨i, 0, 7, rfl, hi, hk, by omega, by decide, by decide, ne, rfl, rfl, rfl⟩)))), ey1, fun H2 _ => dn H2 _ _ _ (.int _), okv _ _ oki okel⟩) hB kF
    · refine ⟨_, rfl, _, rfl, S4, _, _, .ref r2, rfl, rfl, SqL.of eS, rfl, ?_⟩
      exact q r2 x2 y2 _ _ er2 ex2 (.inl ⟨CA, _, _, _, .inl (.inr (.inr (.inr (.inl ⟨i, n - 1, 0 - 7, by rw [hn1], hi, hk, by omega, by decide, by decide, ne, rfl, rfl, rfl⟩)))), ey2, fun H2 _ => dn H2 _ _ _ (.int _), okv _ _ oki okel⟩) hB kF
    · refine ⟨_, rfl, _, rfl, S4, _, _, .ref r3, rfl, rfl, SqL.of eS, rfl, ?_⟩
      exact q r3 x3 y3 _ _ er3 ex3 (.inl ⟨CP, _, _, _, .inl (.inr (.inl ⟨i, u, wv, du, rfl, hi, hk, fun H' _ => .dp (hdu H'), badu, rfl, rfl, rfl⟩)), ey3, fun H2 _ => dn H2 _ _ _ (hdu H2), okv _ _ (oku.up (by decide) (by decide)) okpl⟩) hB kF
    · refine ⟨_, rfl, _, rfl, S4, _, _, .ref r4, rfl, rfl, SqL.of eS, rfl, ?_⟩
      exact q r4 x4 y4 _ _ er4 ex4 (.inl ⟨CW, _, _, _, .inl (.inr (.inr (.inl ⟨i, 1, wv, dw, rfl, hi, hk, by omega, fun H' _ => .dp (hdw H'), badw, rfl, rfl, rfl⟩))), ey4, fun H2 _ => dn H2 _ _ _ (hdw H2), okv _ _ (okw.up (by decide) (by decide)) okwo⟩) hB kF
    · refine ⟨_, rfl, _, rfl, S4, _, _, .ref r5, rfl, rfl, SqL.of eS, rfl, ?_⟩
      exact q r5 x5 y5 _ _ er5 ex5 (.inl ⟨CG, _, _, _, .inr (.inl ⟨i, cv, dc, rfl, hi, hk, fun H' s => .dp (hdc H' s), badc, rfl, rfl, rfl⟩), ey5, fun H2 s => dn H2 _ _ _ (hdc H2 s), okv _ _ okc okch⟩) hB kF
    · refine ⟨_, rfl, _, rfl, S4, _, _, .ref r6, rfl, rfl, SqL.of eS, rfl, ?_⟩
      exact q r6 x6 y6 _ _ er6 ex6 (.inl ⟨CA, _, _, _, .inr (.inr (.inl ⟨i, q6, _, List.replicate kk (0, 1), rfl, hi, hk, eq6, chRep et6, fun c hc => by
        rw [List.eq_of_mem_replicate hc]
        exact ⟨by show 0 < n; omega, by decide, by decide⟩, by rw [List.length_replicate]; exact k2', fun z => by rw [List.replicate_eq_nil_iff] at z; omega, ne, rfl, rfl, rfl⟩)), ey6, fun H2 _ => dn H2 _ _ _ (.int _), okv _ _ oki okel⟩) hB kF
    · refine ⟨_, rfl, _, rfl, S4, _, _, .ref r7, rfl, rfl, SqL.of eS, rfl, ?_⟩
      exact q r7 x7 y7 _ _ er7 ex7 (.inr ⟨⟨i, e7, rfl, hi, hk, .inr ee7⟩, n7, ey7, en7⟩) hB kF
    · refine ⟨_, rfl, _, rfl, S4, _, _, .ref r8, rfl, rfl, SqL.of eS, rfl, ?_⟩
      exact q r8 x8 y8 _ _ er8 ex8 (.inl ⟨CN, _, _, _, .inl (.inl ⟨v, u, wv, d, rfl, fun H' _ => .dp (hd H'), bad, rfl, rfl, rfl⟩), ey8, fun H2 _ => dn H2 _ _ _ (hd H2), okv _ _ okd okmk⟩) hB kF
end
end K41
namespace K41
open PySem PySem.Spec PyProof.Rows L2 Gd Gs Gx Ge
open C8 (clsBody Met pe_mt pe_mt0)
def eldL (ow ks : List Nat) : List Nat := ks.filter fun k => decide (k ≠ ow.length)
theorem RowA.kb {N : Addr → Prop} {H H' : Hp} {o C CL b : Addr} {m : Int} {ws : List Int} {ow pc : List Nat} {vl : List Int} {ks : List Nat} {st : Int} (r : RowA N H o C CL ws ow pc vl ks st) (hB : BoxD H b m) (nN : ¬ N b) (k : ∀ c u, c ≠ b → H c = some u → H' c = some u) : RowA N H' o C CL ws ow pc vl ks st :=
  r.kp (fun c u hc z => k c u (fun e => nN (e ▸ hc)) z) fun c ys z => k c _ (fun e => by
    obtain ⟨_, _, _, _, hb, _⟩ := hB
    rw [e, hb] at z
    cases z) z
theorem eqv_nil (xs : List Nat) : PyData.eqv (.list (xs.map fun n => PyData.int (n : Nat))) (.list []) = decide (xs = []) := by
  cases xs with
  | nil => simp [PyData.eqv, PyData.eqvAll]
  | cons x xs => simp [PyData.eqv, PyData.eqvAll]
theorem sh_nums (xs : List Nat) : SeqAt.shaped (.list (xs.map fun n => PyData.int (n : Nat))) = true := by
  unfold SeqAt.shaped
  rw [show PyData.canLay0 (.list (xs.map fun n => PyData.int (n : Nat))) = true from by simp only [PyData.canLay0]; exact can_nums xs, Bool.true_and]
  refine decide_eq_true ?_
  have := depthAll_le (fun n : Nat => PyData.int (n : Nat)) 0 xs fun q _ => by simp [PyData.depth]
  rw [PyData.depth]
  omega
section
variable {P : Program} {w : World} {K : PySem.W.Frag} {mg : Str → Option Value} {base : Heap} {C CL CA fA CN fN CP fP CS fS CW fW CG fG CM fM CE : Addr}
def spBr (C CL : Addr) : Sp := fun vs H Q _ => ∃ (N : Addr → Prop) (b o : Addr) (m : Int) (ws : List Int) (ow pc : List Nat) (vl : List Int) (ks : List Nat) (st : Int), vs = [.ref b, .ref o, num ws.length] ∧ RowA N H o C CL ws ow pc vl ks st ∧ BoxD H b m ∧ m ≤ 800000 ∧ ¬ N b ∧ 2 ≤ ws.length ∧
  ∀ (H' : Hp), BoxD H' b (m + 20) → (∀ c u, c ≠ b → H c = some u → H' c = some u) → Q (.bl true) H'
theorem ok_br (T : Txt K mg) (c__law_take : CalG P w K mg base 1 "_law_take" spTakeD) (m_many : Met P w K mg base 1 C "many" (spRMany C CL) []) (m_makes : Met P w K mg base 1 C "makes" (spMakes C CL) []) (c__law_seen : CalG P w K mg base 4 "_law_seen" (spSeen K C CL)) (c__law_bad : CalG P w K mg base 2 "_law_bad" (spBd K CA CN CP CW CG CM)) (c__law_told : CalG P w K mg base 25 "_law_told" (spTold K CA CN CP CW CG CM C CL))
    (D : DefAt K mg "_law_bad_right" s__law_bad_right ["_law_box_here", "_law_lined", "_law_size"]) : CalG P w K mg base 26 "_law_bad_right" (spBr C CL) := by
  refine D.cal sc__law_bad_right (fun vs H Q E h => ?_) (fun f cdv A outer s H vs Q E hG hr h => ?_)
  · obtain ⟨N, b, o, m, ws, ow, pc, vl, ks, st, rfl, _⟩ := h
    rfl
  · obtain ⟨N, b, o, m, ws, ow, pc, vl, ks, st, rfl, r, hB, hm, nN, hw2, q⟩ := h
    have ft := r.fit
    have few := ft.few
    have sz := ft.sz
    have ev : (fun i : Nat => V.int (0 + ((i : Nat) : Int))) = num := by
      funext i
      show V.int _ = V.int _
      rw [Int.zero_add]
    obtain ⟨NB, fs, rb, sb⟩ := r.b
    obtain ⟨dx, e1, nl⟩ := rb.ins
    have kr := rb.kr
    have kl := rb.kl
    have h64 : ks.length ≤ 64 := Nat.le_trans (up_len kr kl) (by omega)
    refine ⟨_, (pss_cons (ps_set (i := 3) sc__law_bad_right.nd rfl (Or.inr rfl) (pe_mt0 m_makes hr (by decide) (pv 1)))
      (pss_cons (ps_setLc (i := 4) (own := [("_law_one", 11)]) (g := gName 11) (tt := _) rfl sc__law_bad_right.nd rfl rfl (sw_true rfl rfl rfl (by decide +kernel)) (pi_list (pv 3)) (blkOk_by (own := [("_law_one", 11)]) (N := ["_law_box_here", "_law_lined", "_law_size", "_law_kept", "_law_elder", "_law_lost", "_law_gone", "_law_seen_here", "_law_deed", "_law_due", "_law_found", "_law_one"]) (sc := defScope s__law_bad_right) (by decide +kernel)) (fun _ _ _ _ _ => pg_name (i := 11) sc__law_bad_right.nd rfl (Or.inl rfl)) (fun _ _ _ _ _ => (pts_one (pt_cmpR op_ne (pv 11) (pe_op op_sub (pe_mt0 m_many hr (by decide) (pv 1)) pe_int) (nomark _)))) (fun _ _ _ _ _ => (pv 11)))
      (pss_cons (ps_if (pt_cmpR (op_eqD (hu64 hr)) (pv 4) (pe_lst pa_nil) (nomark _))
          (pss_one (ps_ret pe_bl)) pss_nil)
      (pss_cons (ps_setLc (i := 5) (own := [("_law_one", 11)]) (g := gName 11) (tt := _) rfl sc__law_bad_right.nd rfl rfl (sw_true rfl rfl rfl (by decide +kernel)) (pi_range1 rfl T.b_range (pa_cons (pe_mt0 m_many hr (by decide) (pv 1)) pa_nil)) (blkOk_by (own := [("_law_one", 11)]) (N := ["_law_box_here", "_law_lined", "_law_size", "_law_kept", "_law_elder", "_law_lost", "_law_gone", "_law_seen_here", "_law_deed", "_law_due", "_law_found", "_law_one"]) (sc := defScope s__law_bad_right) (by decide +kernel)) (fun _ _ _ _ _ => pg_name (i := 11) sc__law_bad_right.nd rfl (Or.inl rfl)) (fun _ _ _ _ _ => (pts_one (pt_cmpR (show OpR _ (compareOp .NotIn) (rIn K true) from op_notIn_seq) (pv 11) (pv 3) (by rfl)))) (fun _ _ _ _ _ => (pv 11)))
      (pss_cons (ps_set (i := 6) sc__law_bad_right.nd rfl (Or.inl rfl) (pe_ix ix_list (pe_op op_cat (pv 5) (pe_lst (pa_cons (pe_mt0 m_many hr (by decide) (pv 1)) (pa_cons (pe_un un_neg pe_int) (pa_cons pe_non pa_nil))))) (pe_g c__law_take hG (hr.mono (by decide)) (by rfl) (pa_cons (pv 0) (pa_cons (pe_op op_add (pe_callB call_len (by rfl) T.b_len boot_len_ (pa_cons (pv 5) pa_nil)) pe_int) pa_nil))) (fun _ _ => rfl)))
      (pss_cons (ps_set (i := 7) sc__law_bad_right.nd rfl (Or.inl rfl) (pe_g c__law_seen hG (hr.mono (by decide)) (by rfl) (pa_cons (pv 1) (pa_cons (pv 2) pa_nil))))
      (pss_cons (ps_asg (pe_g c__law_bad hG (hr.mono (by decide)) (by rfl) (pa_cons (pv 0) (pa_cons (pe_ix ix_list (pv 4) (pe_g c__law_take hG (hr.mono (by decide)) (by rfl) (pa_cons (pv 0) (pa_cons (pe_callB call_len (by rfl) T.b_len boot_len_ (pa_cons (pv 4) pa_nil)) pa_nil))) (fun _ _ => rfl)) (pa_cons (pv 6) (pa_cons (pv 2) pa_nil))))) (pg_tup (by rfl) (pgs_cons (pg_name (i := 8) sc__law_bad_right.nd rfl (Or.inl rfl)) (pgs_cons (pg_name (i := 9) sc__law_bad_right.nd rfl (Or.inl rfl)) pgs_nil))))
      (pss_cons (ps_set (i := 10) sc__law_bad_right.nd rfl (Or.inl rfl) (pe_g c__law_told hG (hr.mono (by decide)) (by rfl) (pa_cons (pv 1) (pa_cons (pv 8) pa_nil))))
      (pss_one (ps_ret (pe_and (pe_cmpR op_eq (pe_callB (call_repr hG (hu64 hr)) (by rfl) T.b_repr boot_repr_ (pa_cons (pv 10) pa_nil)) (pe_callB (call_repr hG (hu64 hr)) (by rfl) T.b_repr boot_repr_ (pa_cons (pv 9) pa_nil)) (nomark _)) (pe_one (pe_cmpR (op_eqD (hu64 hr)) (pe_g c__law_seen hG (hr.mono (by decide)) (by rfl) (pa_cons (pv 1) (pa_cons (pv 2) pa_nil))) (pv 7) (nomark _)))))))))))))), ?_⟩
    refine ⟨_, rfl, o, dx, fs, rfl, e1, nl _ (by decide), NB, o, ws.length, ow, pc, ks, st, fs, rfl, rb, fun ka H1 hka eka s1 => ?_⟩
    have rb1 := rb.same s1
    have hB1 := hB.kp (H' := H1) fun u z => s1 _ _ z
    refine ⟨_, rfl, ka, rfl, ⟨_, SqL.of eka⟩, fun B hBn => ?_⟩
    refine lc_it (walk_list (xs := ks.map num)) (fun k H' => Same H1 H' ∧ H' B = some (.lst (((ks.take k).filter fun k => decide (k ≠ ow.length)).map num))) ⟨same_new hBn, upd_same⟩ (fun k H' _ hP => SqL.of (hP.1 _ _ eka)) (fun k v H2 H3 hk hP hY => ?_) (fun H2 hP => ?_)
    · obtain ⟨s2, eB⟩ := hP
      obtain ⟨rfl, hki⟩ := hY
      refine ⟨rfl, ?_⟩
      obtain ⟨i, hi, rfl⟩ : ∃ i, ks[k]? = some i ∧ v = num i := by
        rw [List.getElem?_map] at hki
        obtain ⟨i, hi, e⟩ := Option.map_eq_some_iff.mp hki
        exact ⟨i, hi, e.symm⟩
      rw [List.length_map] at hk
      have hlt : ((ks.take k).filter fun k => decide (k ≠ ow.length)).length ≤ 64 := by
        refine Nat.le_trans (List.length_filter_le ..) ?_
        rw [List.length_take]
        omega
      refine ⟨_, rfl, _, rfl, o, dx, fs, rfl, s2 _ _ (s1 _ _ e1), nl _ (by decide), NB, o, ws.length, ow, pc, ks, st, fs, rfl, rb1.same s2, _, _, rfl, rfl, rfl, ?_⟩
      rw [List.take_add_one, hi, List.filter_append]
      by_cases hki : i = ow.length
      · rw [decide_eq_true (by show num i = V.int _; subst hki; show V.int _ = V.int _; congr 1; omega)]
        refine ⟨_, rfl, iteF ⟨s2, ?_⟩⟩
        rw [eB]
        simp [hki]
      · rw [decide_eq_false (by show ¬ num i = V.int _; intro z; have := V.int.inj z; omega)]
        refine ⟨_, rfl, iteT ⟨_, rfl, _, eB, small1000 (by rw [List.length_map]; omega), fun c u z => ?_, ?_⟩⟩
        · rw [upd_ne (ne_of_none z hBn)]
          exact s2 _ _ z
        · rw [upd_same]
          simp [hki]
    obtain ⟨s2, eB⟩ := hP
    rw [List.length_map, List.take_length] at eB
    replace eB : H2 B = some (.lst ((eldL ow ks).map num)) := eB
    have hB2 := hB1.kp (H' := H2) fun u z => s2 _ _ z
    have rb2 := rb1.same s2
    -- none of them
    refine ⟨_, rfl, (by show 0 ≤ sizeLine; decide), fun z hz => ?_⟩
    have s3 := same_new (o := .lst []) hz
    have ez : (upd H2 z (.lst [])) z = some (.lst []) := upd_same
    generalize upd H2 z (.lst []) = H3 at *
    have hB3 := hB2.kp (H' := H3) fun u z => s3 _ _ z
    refine ⟨.list ((eldL ow ks).map fun n => PyData.int (n : Nat)), .list [], .lst (SqL.of (s3 _ _ eB)) (numsD _), .lst (SqL.of ez) .nil, sh_nums _, sh_nums [], ?_⟩
    rw [eqv_nil]
    by_cases he : eldL ow ks = []
    · rw [decide_eq_true he]
      refine ⟨_, rfl, iteT ?_⟩
      exact q H3 (hB3.up (by omega)) fun c u _ z => s3 _ _ (s2 _ _ (s1 _ _ z))
    rw [decide_eq_false he]
    refine ⟨_, rfl, iteF ?_⟩
    have e13 := s3 _ _ (s2 _ _ (s1 _ _ e1))
    have rb3 := rb2.same s3
    have eka3 := s3 _ _ (s2 _ _ eka)
    -- the gone ones
    refine ⟨_, rfl, o, dx, fs, rfl, e13, nl _ (by decide), NB, o, ws.length, ow, pc, ks, st, fs, rfl, rb3, ?_⟩
    refine ⟨_, rfl, by omega, by omega, fun B2 hBn2 => ?_⟩
    rw [show (((ow.length + 1 : Nat) : Int)).toNat = ow.length + 1 from Int.toNat_natCast _]
    refine lc_it (walk_range (lo := 0) (n := ow.length + 1)) (fun k H' => Same H3 H' ∧ H' B2 = some (.lst (((List.range k).filter fun k => decide (k ∉ ks)).map num))) ⟨same_new hBn2, upd_same⟩ (fun _ _ _ _ => trivial) (fun k v H4 H5 hk hP hY => ?_) (fun H4 hP => ?_)
    · obtain ⟨s4, eB2⟩ := hP
      obtain ⟨rfl, rfl⟩ := hY
      rw [ev]
      refine ⟨rfl, ?_⟩
      refine ⟨_, rfl, _, rfl, ka, _, rfl, .inl (SqL.of (s4 _ _ eka3)), rfl, flat_nums ks, ?_⟩
      have hlt : ((List.range k).filter fun k => decide (k ∉ ks)).length ≤ 64 := by
        refine Nat.le_trans (List.length_filter_le ..) ?_
        rw [List.length_range]
        omega
      rw [List.range_succ, List.filter_append]
      by_cases hks : k ∈ ks
      · rw [in_nums hks]
        refine ⟨_, rfl, iteF ⟨s4, ?_⟩⟩
        rw [eB2]
        simp [hks]
      · rw [nin_nums hks]
        refine ⟨_, rfl, iteT ⟨_, rfl, _, eB2, small1000 (by rw [List.length_map]; omega), fun c u z => ?_, ?_⟩⟩
        · rw [upd_ne (ne_of_none z hBn2)]
          exact s4 _ _ z
        · rw [upd_same]
          simp [hks]
    obtain ⟨s4, eB2⟩ := hP
    replace eB2 : H4 B2 = some (.lst ((lostL ow ks).map num)) := eB2
    have hll : (lostL ow ks).length ≤ 64 := by
      refine Nat.le_trans (List.length_filter_le ..) ?_
      rw [List.length_range]
      omega
    have rb4 := rb3.same s4
    have hB4 := hB3.kp (H' := H4) fun u z => s4 _ _ z
    refine ⟨_, rfl, _, rfl, o, dx, fs, rfl, s4 _ _ e13, nl _ (by decide), NB, o, ws.length, ow, pc, ks, st, fs, rfl, rb4, 1, rfl, (by show 3 ≤ sizeLine; decide), fun nv hnv => ?_⟩
    generalize hg : upd H4 nv (HO.lst _) = H5
    have s5 : Same H4 H5 := hg ▸ same_new hnv
    have env : H5 nv = some (.lst [num (ow.length + 1), V.int (-1), .non]) := by
      rw [← hg]
      exact upd_same
    clear hg
    refine ⟨B2, nv, _, _, rfl, rfl, s5 _ _ eB2, env, ?_, fun cp hcp => ?_⟩
    · show ((lostL ow ks).map num).length + 3 ≤ sizeLine
      rw [List.length_map]
      exact Nat.le_trans (show (lostL ow ks).length + 3 ≤ 70 by omega) (by decide)
    generalize hg : upd H5 cp (HO.lst _) = H6
    have s6 : Same H5 H6 := hg ▸ same_new hcp
    have ecp : H6 cp = some (.lst ((lostL ow ks).map num ++ [num (ow.length + 1), V.int (-1), .non])) := by
      rw [← hg]
      exact upd_same
    clear hg
    have s46 := s5.trans s6
    have hB6 := hB4.kp (H' := H6) fun u z => s46 _ _ z
    refine ⟨_, rfl, _, rfl, .ref B2, _, rfl, .inl ⟨_, SqL.of (s46 _ _ eB2), rfl⟩, _, _, rfl, rfl, ?_⟩
    rw [List.length_map]
    refine ⟨b, ((lostL ow ks).length : Nat) + 3, m, rfl, hB6, by omega, by omega, by omega, fun g H7 g0 g1 hB7 k7 => ?_⟩
    have ncp : cp ≠ b := fun e => by
      obtain ⟨_, _, _, kvs, hb, _⟩ := hB6
      rw [← e, ecp] at hb
      cases hb
    have ecp7 := (k7 cp ncp).trans ecp
    obtain ⟨v, d, hat, hd, okd, bad⟩ : ∃ (v : V) (d : PyData), atI ((lostL ow ks).map num ++ [num (ow.length + 1), V.int (-1), .non]) g = some v ∧ (∀ H', Dp K H' v d) ∧ Okd d 10000 2 ∧ NoK ow ks d := by
      by_cases hlt : g < ((lostL ow ks).length : Nat)
      · obtain ⟨jj, rfl⟩ : ∃ jj : Nat, g = (jj : Nat) := ⟨g.toNat, by omega⟩
        obtain ⟨i, hi⟩ : ∃ i, (lostL ow ks)[jj]? = some i := ⟨_, List.getElem?_eq_getElem (by omega)⟩
        have hi2 := List.mem_filter.mp (List.mem_of_getElem? hi)
        have hi3 := List.mem_range.mp hi2.1
        have hi4 : i ∉ ks := of_decide_eq_true hi2.2
        refine ⟨num i, .int (i : Nat), ?_, fun _ => .int _, (num2k (by omega)).up (by decide) (by decide), .inr ⟨i, rfl, by omega, hi4⟩⟩
        refine atI_nat ?_
        rw [List.getElem?_append_left (by rw [List.length_map]; omega), List.getElem?_map, hi]
        rfl
      · obtain ⟨jj, hjj, rfl⟩ : ∃ jj : Nat, jj < 3 ∧ g = (((lostL ow ks).map num).length + jj : Nat) := ⟨(g - (lostL ow ks).length).toNat, by omega, by rw [List.length_map]; omega⟩
        have hget : ∀ x, ([num (ow.length + 1), V.int (-1), .non] : List V)[jj]? = some x → atI ((lostL ow ks).map num ++ [num (ow.length + 1), V.int (-1), .non]) ((((lostL ow ks).map num).length + jj : Nat) : Int) = some x := fun x hx => by
          refine atI_nat ?_
          rw [List.getElem?_append_right (by omega), show ((lostL ow ks).map num).length + jj - ((lostL ow ks).map num).length = jj by omega]
          exact hx
        rcases (by omega : jj = 0 ∨ jj = 1 ∨ jj = 2) with rfl | rfl | rfl
        · refine ⟨_, .int ((ow.length + 1 : Nat) : Int), hget _ rfl, fun _ => .int _, (num2k (by omega)).up (by decide) (by decide), .inl ?_⟩
          show (decide ((0 : Int) ≤ ((ow.length + 1 : Nat) : Int)) && decide (((ow.length + 1 : Nat) : Int) ≤ (ow.length : Nat))) = false
          rw [decide_eq_false (by omega : ¬ ((ow.length + 1 : Nat) : Int) ≤ (ow.length : Nat)), Bool.and_false]
        · exact ⟨_, .int (-1), hget _ rfl, fun _ => .int _, (okInt ⟨by decide, by decide⟩).up (by decide) (by decide), .inl rfl⟩
        · exact ⟨_, .none, hget _ rfl, fun _ => .non, okNone.up (by decide) (by decide), .inl rfl⟩
    refine ⟨cp, _, _, v, rfl, rfl, SqL.of ecp7, hat, ?_⟩
    have s16 := s1.trans (s2.trans (s3.trans (s4.trans s46)))
    have r7 := (r.same s16).kb hB6 nN (fun c u hc z => (k7 c hc).trans z)
    refine ⟨_, rfl, _, rfl, N, o, ws, ow, pc, vl, ks, st, rfl, r7, fun la H8 hla sla s8 => ?_⟩
    have hB8 := hB7.kp (H' := H8) fun u z => s8 _ _ z
    have eld1 : 1 ≤ (eldL ow ks).length := by
      cases h : eldL ow ks with
      | nil => exact absurd h he
      | cons x xs => rw [List.length_cons]; omega
    have eldm : (eldL ow ks).length ≤ 64 := Nat.le_trans (List.length_filter_le ..) h64
    have nBb : B ≠ b := fun e => by
      obtain ⟨_, _, _, kvs, hb, _⟩ := hB2
      rw [← e, eB] at hb
      cases hb
    have eB8 : H8 B = some (.lst ((eldL ow ks).map num)) := s8 _ _ ((k7 B nBb).trans (s46 _ _ (s4 _ _ (s3 _ _ eB))))
    refine ⟨_, rfl, _, rfl, _, rfl, _, rfl, .ref B, _, rfl, .inl ⟨_, SqL.of eB8, rfl⟩, ?_⟩
    rw [List.length_map]
    refine ⟨b, ((eldL ow ks).length : Nat), m + 1, rfl, hB8, by omega, by omega, by omega, fun g2 H9 h0 h1 hB9 k9 => ?_⟩
    obtain ⟨jj, rfl⟩ : ∃ jj : Nat, g2 = (jj : Nat) := ⟨g2.toNat, by omega⟩
    obtain ⟨i, hi⟩ : ∃ i, (eldL ow ks)[jj]? = some i := ⟨_, List.getElem?_eq_getElem (by omega)⟩
    have hi2 := List.mem_filter.mp (List.mem_of_getElem? hi)
    have hik : i ∈ ks := hi2.1
    have hin : i ≠ ow.length := of_decide_eq_true hi2.2
    refine ⟨B, _, _, num i, rfl, rfl, SqL.of ((k9 B nBb).trans eB8), atI_nat (by rw [List.getElem?_map, hi]; rfl), ?_⟩
    have r9 := (r7.same s8).kb hB8 nN (fun c u hc z => (k9 c hc).trans z)
    refine ⟨_, rfl, _, rfl, b, m + 1 + 1, i, ws.length, v, d, ow, ks, rfl, hB9, by omega, hw2, sz.2, kl i hik, hik, hin, few, hd, okd, bad, fun t dd du H10 things et edd bd hB10 k10 => ?_⟩
    have r10 := r9.kb hB9 nN k10
    refine ⟨t, _, rfl, SqT.of et, rfl, _, _, rfl, _, _, rfl, rfl, ?_⟩
    obtain ⟨NB2, fs2, rb10, sb2⟩ := r10.b
    refine ⟨_, rfl, _, rfl, NB2, o, dd, ws.length, ow, pc, ks, st, fs2, things, rfl, rb10, edd, ?_⟩
    rcases bd with ⟨CX, xf, vals, ds, tb, edu, hdp, okD⟩ | ⟨nb, l2, edu, el2⟩
    · refine .inl ⟨CX, xf, vals, tb, fun l H11 hl el s11 => ?_⟩
      have hD1 : Dp K H11 (.ref l) (.list ds) := .lst (SqL.of el) (hdp _ s11)
      have hD2 : Dp K H11 (.ref du) (.list ds) := .lst (SqL.of (s11 _ _ edu)) (hdp _ s11)
      have s1_ := s11
      have hB11 := hB10.kp (H' := H11) fun u z => s11 _ _ z
      have r11 := r10.same s11
      refine ⟨_, rfl, _, _, rfl, .d1 (.dp hD1), okD.sh, Nat.le_trans okD.ln (by decide), Nat.le_trans okD.dp (by decide), _, rfl, _, _, rfl, .d1 (.dp hD2), okD.sh, Nat.le_trans okD.ln (by decide), Nat.le_trans okD.dp (by decide), rfl, ?_⟩
      rw [decide_eq_true rfl]
      refine ⟨_, rfl, iteT ?_⟩
      refine ⟨_, rfl, _, rfl, N, o, ws, ow, pc, vl, ks, st, rfl, r11, fun lb H12 hlb slb s12 => ?_⟩
      have f812 : ∀ c u, c ≠ b → H8 c = some u → H12 c = some u := fun c u hc z => s12 _ _ (s11 _ _ (k10 c u hc ((k9 c hc).trans z)))
      have nb7 : H7 b ≠ none := by
        obtain ⟨_, _, _, _, hb, _⟩ := hB7
        rw [hb]
        simp
      refine ⟨_, rfl, seenD ws ow pc vl ks st, seenD ws ow pc vl ks st, slb H12 (fun c u _ z => z) (fun c ys z => z), sla H12 (fun c u h z => f812 c u (fun e => nb7 (e ▸ h)) z) (fun c ys z => f812 c _ (fun e => by
        obtain ⟨_, _, _, _, hb, _⟩ := hB8
        rw [e, hb] at z
        cases z) z), sh_seen .., sh_seen .., ?_⟩
      rw [PySem.SeqAt.eqv_refl _ (can_seen ..)]
      have hB12 := hB11.kp (H' := H12) fun u z => s12 _ _ z
      exact q H12 (hB12.up (by omega)) fun c u hc z => f812 c u hc (s8 _ _ ((k7 c hc).trans (s46 _ _ (s4 _ _ (s3 _ _ (s2 _ _ (s1 _ _ z)))))))
    · refine .inr ⟨nb, fun l l3 H11 hl el el3 s11 => ?_⟩
      have okD : Okd (.list [.str "told", .list []]) 60000 5 := (okList (ds := [.str "told", .list []]) (m := 100) (e := 1) (n := 2) (fun x hx => by
        rcases List.mem_cons.mp hx with rfl | hx
        · exact (okStr (m := 10) (by decide +kernel)).up (by decide) (by decide)
        · rw [List.mem_singleton.mp hx]
          exact (okList (ds := []) (m := 1) (e := 0) (n := 0) (fun d hd => by cases hd) (Nat.le_refl 0)).up (by decide) (by decide)) (Nat.le_refl 2)).up (by decide) (by decide)
      have hD1 : Dp K H11 (.ref l) (.list [.str "told", .list []]) := .lst (SqL.of el) (.cons (.str _) (.cons (.lst (SqL.of el3) .nil) .nil))
      have hD2 : Dp K H11 (.ref du) (.list [.str "told", .list []]) := .lst (SqL.of (s11 _ _ edu)) (.cons (.str _) (.cons (.lst (SqL.of (s11 _ _ el2)) .nil) .nil))
      have s1_ := s11
      have hB11 := hB10.kp (H' := H11) fun u z => s11 _ _ z
      have r11 := r10.same s11
      refine ⟨_, rfl, _, _, rfl, .d1 (.dp hD1), okD.sh, Nat.le_trans okD.ln (by decide), Nat.le_trans okD.dp (by decide), _, rfl, _, _, rfl, .d1 (.dp hD2), okD.sh, Nat.le_trans okD.ln (by decide), Nat.le_trans okD.dp (by decide), rfl, ?_⟩
      rw [decide_eq_true rfl]
      refine ⟨_, rfl, iteT ?_⟩
      refine ⟨_, rfl, _, rfl, N, o, ws, ow, pc, vl, ks, st, rfl, r11, fun lb H12 hlb slb s12 => ?_⟩
      have f812 : ∀ c u, c ≠ b → H8 c = some u → H12 c = some u := fun c u hc z => s12 _ _ (s11 _ _ (k10 c u hc ((k9 c hc).trans z)))
      have nb7 : H7 b ≠ none := by
        obtain ⟨_, _, _, _, hb, _⟩ := hB7
        rw [hb]
        simp
      refine ⟨_, rfl, seenD ws ow pc vl ks st, seenD ws ow pc vl ks st, slb H12 (fun c u _ z => z) (fun c ys z => z), sla H12 (fun c u h z => f812 c u (fun e => nb7 (e ▸ h)) z) (fun c ys z => f812 c _ (fun e => by
        obtain ⟨_, _, _, _, hb, _⟩ := hB8
        rw [e, hb] at z
        cases z) z), sh_seen .., sh_seen .., ?_⟩
      rw [PySem.SeqAt.eqv_refl _ (can_seen ..)]
      have hB12 := hB11.kp (H' := H12) fun u z => s12 _ _ z
      exact q H12 (hB12.up (by omega)) fun c u hc z => f812 c u hc (s8 _ _ ((k7 c hc).trans (s46 _ _ (s4 _ _ (s3 _ _ (s2 _ _ (s1 _ _ z)))))))
end
end K41
namespace K41
open PySem PySem.Spec PyProof.Rows L2 Gd Gs Gx Ge
open C8 (clsBody Met pe_mt pe_mt0)
theorem dpSnoc {K : PySem.W.Frag} {H : Hp} {v : V} {d : PyData} : ∀ {vs : List V} {ds : List PyData}, DpAll K H vs ds → Dp K H v d → DpAll K H (vs ++ [v]) (ds ++ [d])
  | _, _, .nil, h => .cons h .nil
  | _, _, .cons a b, h => .cons a (dpSnoc b h)
def elD (i : Nat) : PyData := .list [.str "elder", .int ((i : Nat) : Int)]
def maD (i : Nat) : PyData := .list [.str "many", .int ((i : Nat) : Int)]
def toD : PyData := .list [.str "told", .list []]
def fullD (i : Nat) : List PyData := [elD i, elD i, maD 65, maD 66, toD]
theorem okS1 : PyData.strOk (Str.ofString "elder") = true := by decide +kernel
theorem okS2 : PyData.strOk (Str.ofString "many") = true := by decide +kernel
theorem okS3 : PyData.strOk (Str.ofString "told") = true := by decide +kernel
theorem okS4 : PyData.strOk (Str.ofString "make") = true := by decide +kernel
theorem can_full (i : Nat) : PyData.canLay0 (.list (fullD i)) = true := by
  simp [fullD, elD, maD, toD, PyData.canLay0, PyData.canLayAll0, okS1, okS2, okS3]
theorem sh_full (i : Nat) : SeqAt.shaped (.list (fullD i)) = true := by
  unfold SeqAt.shaped
  rw [can_full, Bool.true_and]
  refine decide_eq_true ?_
  simp [fullD, elD, maD, toD, PyData.depth, PyData.depthAll]
section
variable {P : Program} {w : World} {K : PySem.W.Frag} {mg : Str → Option Value} {base : Heap} {C CL CA fA CN fN CP fP CS fS CW fW CG fG CM fM CE : Addr}
def spFr (C CL : Addr) : Sp := fun vs H Q _ => ∃ (N : Addr → Prop) (o : Addr) (ws : List Int) (ow pc : List Nat) (vl : List Int) (ks : List Nat) (st : Int), vs = [.ref o, num ws.length] ∧ RowA N H o C CL ws ow pc vl ks st ∧ ow.length ∈ ks ∧ ow.length ≤ 62 ∧ 2 ≤ ws.length ∧
  ∀ (H' : Hp) (N' : Addr → Prop) (ow' pc' : List Nat) (vl' : List Int) (ks' : List Nat) (st' : Int), RowA N' H' o C CL ws ow' pc' vl' ks' st' → ow'.length = 63 → 63 ∈ ks' → 2 ≤ ks'.length → (∀ c u, ¬ N c → H c = some u → H' c = some u) → (∀ c, N' c → N c ∨ H c = none) → Q (.bl true) H'
theorem ok_fr (T : Txt K mg) (m_many : Met P w K mg base 1 C "many" (spRMany C CL) []) (m_makes : Met P w K mg base 1 C "makes" (spMakes C CL) []) (m_put : Met P w K mg base 23 C "put" (spPut C CL) []) (c__law_seen : CalG P w K mg base 4 "_law_seen" (spSeen K C CL)) (c__law_told : CalG P w K mg base 25 "_law_told" (spTold K CA CN CP CW CG CM C CL))
    (D : DefAt K mg "_law_full_right" s__law_full_right ["_law_lined", "_law_size"]) : CalG P w K mg base 26 "_law_full_right" (spFr C CL) := by
  refine D.cal sc__law_full_right (fun vs H Q E h => ?_) (fun f cdv A outer s H vs Q E hG hr h => ?_)
  · obtain ⟨N, o, ws, ow, pc, vl, ks, st, rfl, _⟩ := h
    rfl
  · obtain ⟨N, o, ws, ow, pc, vl, ks, st, rfl, r, hk, h62, hw2, q⟩ := h
    refine ⟨_, (pss_cons (ps_while PassesOwn.never (pt_cmpR op_lt (pe_mt0 m_many hr (by decide) (pv 0)) pe_int (nomark _))
          (pss_one (ps_expr (pe_mt m_put hr (by decide) (pv 0) (pa_cons (pe_op op_sub (pe_mt0 m_many hr (by decide) (pv 0)) pe_int) (pa_cons (pe_op op_mod (pe_mt0 m_many hr (by decide) (pv 0)) (pv 1)) (pa_cons (pe_mt0 m_many hr (by decide) (pv 0)) pa_nil)))))))
      (pss_cons (ps_set (i := 2) sc__law_full_right.nd rfl (Or.inl rfl) (pe_ix ix_list (pe_mt0 m_makes hr (by decide) (pv 0)) pe_int (fun _ _ => rfl)))
      (pss_cons (ps_set (i := 3) sc__law_full_right.nd rfl (Or.inl rfl) (pe_g c__law_seen hG (hr.mono (by decide)) (by rfl) (pa_cons (pv 0) (pa_cons (pv 1) pa_nil))))
      (pss_cons (ps_set (i := 4) sc__law_full_right.nd rfl (Or.inl rfl) (pe_lst (pa_cons (pe_lst (pa_cons pe_str (pa_cons (pv 2) pa_nil))) (pa_cons (pe_lst (pa_cons pe_str (pa_cons (pv 2) pa_nil))) (pa_cons (pe_lst (pa_cons pe_str (pa_cons pe_int pa_nil))) (pa_cons (pe_lst (pa_cons pe_str (pa_cons pe_int pa_nil))) (pa_cons (pe_lst (pa_cons pe_str (pa_cons (pe_lst pa_nil) pa_nil))) pa_nil)))))))
      (pss_cons (ps_set (i := 5) sc__law_full_right.nd rfl (Or.inl rfl) (pe_lst (pa_cons (pe_tup (pa_cons (pv 2) (pa_cons pe_int (pa_cons pe_int pa_nil)))) (pa_cons (pe_tup (pa_cons (pv 2) (pa_cons (pe_lst (pa_cons (pe_tup (pa_cons pe_int (pa_cons pe_int pa_nil))) pa_nil)) pa_nil))) (pa_cons (pe_tup (pa_cons pe_int (pa_cons pe_int (pa_cons pe_int pa_nil)))) (pa_cons (pe_tup (pa_cons pe_int (pa_cons (pe_lst (pa_cons (pe_tup (pa_cons pe_int (pa_cons pe_int pa_nil))) (pa_cons (pe_tup (pa_cons pe_int (pa_cons pe_int pa_nil))) pa_nil))) pa_nil))) (pa_cons (pe_tup (pa_cons pe_int (pa_cons (pe_lst pa_nil) pa_nil))) pa_nil)))))))
      (pss_one (ps_ret (pe_and (pe_cmpR (op_eqD (hu64 hr)) (pe_lc (own := [("_law_deed", 6)]) (g := gName 6) (tt := tYes) rfl sc__law_full_right.nd (pi_list (pv 5)) (blkOk_by (own := [("_law_deed", 6)]) (N := ["_law_lined", "_law_size", "_law_elder", "_law_seen_here", "_law_due", "_law_deeds", "_law_deed"]) (sc := defScope s__law_full_right) (by decide +kernel)) (fun _ _ _ _ _ => pg_name (i := 6) sc__law_full_right.nd rfl (Or.inl rfl)) (fun _ _ _ _ _ => pts_nil) (fun _ _ _ _ _ => (pe_g c__law_told hG (hr.mono (by decide)) (by rfl) (pa_cons (pv 0) (pa_cons (pv 6) pa_nil))))) (pv 4) (nomark _)) (pe_one (pe_cmpR (op_eqD (hu64 hr)) (pe_g c__law_seen hG (hr.mono (by decide)) (by rfl) (pa_cons (pv 0) (pa_cons (pv 1) pa_nil))) (pv 3) (nomark _))))))))))), ?_⟩
    refine ⟨fun mea σ H' => ∃ (N' : Addr → Prop) (ow pc : List Nat) (vl : List Int) (ks : List Nat) (st : Int), σ = [some (.ref o), some (num ws.length), none, none, none, none, none] ∧ RowA N' H' o C CL ws ow pc vl ks st ∧ ow.length ∈ ks ∧ (62 < ow.length → 2 ≤ ks.length) ∧ (∀ c u, ¬ N c → H c = some u → H' c = some u) ∧ (∀ c, N' c → N c ∨ H c = none) ∧ mea = 63 - ow.length, ⟨_, N, ow, pc, vl, ks, st, rfl, r, hk, fun z => absurd z (by omega), fun c u _ z => z, fun c h => .inl h, rfl⟩, ?_⟩
    rintro mea σ H1 ⟨N1, ow1, pc1, vl1, ks1, st1, rfl, r1, hk1, h2k, k1, f1, hmea⟩
    clear h62 hk r
    clear ow pc vl ks st
    have ft := r1.fit
    have few := ft.few
    have sz := ft.sz
    obtain ⟨NB, fs, rb, sb⟩ := r1.b
    obtain ⟨dx, e1, nl⟩ := rb.ins
    have kr := rb.kr
    have kl := rb.kl
    have h64 : ks1.length ≤ 64 := Nat.le_trans (up_len kr kl) (by omega)
    refine ⟨_, rfl, o, dx, fs, rfl, e1, nl _ (by decide), NB, o, ws.length, ow1, pc1, ks1, st1, fs, rfl, rb, _, _, rfl, rfl, _, rfl, ite2 (fun hlt => ?_) (fun hlt => ?_)⟩
    · have hlt := of_decide_eq_true hlt
      refine ⟨_, fun σ' H'' z => z, ?_⟩
      refine ⟨_, rfl, o, dx, fs, rfl, e1, nl _ (by decide), _, rfl, o, dx, fs, rfl, e1, nl _ (by decide), NB, o, ws.length, ow1, pc1, ks1, st1, fs, rfl, rb, _, _, rfl, rfl, ?_⟩
      refine ⟨_, rfl, o, dx, fs, rfl, e1, nl _ (by decide), NB, o, ws.length, ow1, pc1, ks1, st1, fs, rfl, rb, _, rfl, _, _, rfl, rfl, by omega, ?_⟩
      refine ⟨_, rfl, o, dx, fs, rfl, e1, nl _ (by decide), NB, o, ws.length, ow1, pc1, ks1, st1, fs, rfl, rb, ?_⟩
      refine ⟨N1, o, ws, ow1, pc1, vl1, ks1, st1, (ow1.length + 1) % ws.length, ((ow1.length + 1 : Nat) : Int), ?_, r1, hk1, by omega, by omega, Nat.mod_lt _ (by omega), by rw [b30]; omega, by rw [b30]; omega, fun H2 N2 r2 k2 f2 => ?_⟩
      · show [V.ref o, V.int (((ow1.length + 1 : Nat) : Int) - 1), V.int (((ow1.length + 1 : Nat) : Int) % (ws.length : Nat)), num (ow1.length + 1)] = _
        rw [show V.int (((ow1.length + 1 : Nat) : Int) - 1) = num ow1.length from by show V.int _ = V.int _; congr 1; omega, show V.int (((ow1.length + 1 : Nat) : Int) % (ws.length : Nat)) = num ((ow1.length + 1) % ws.length) from rfl]
        rfl
      have hn0 : ow1.length + 1 ∈ ks1 ++ [ow1.length + 1] := List.mem_append.mpr (.inr (List.mem_singleton.mpr rfl))
      have hl1 : (ow1 ++ [ow1.length]).length = ow1.length + 1 := by rw [List.length_append]; rfl
      have pos : 1 ≤ ks1.length := List.length_pos_of_mem hk1
      refine ⟨63 - (ow1 ++ [ow1.length]).length, by omega, N2, _, _, _, _, _, rfl, r2, by rw [hl1]; exact hn0, fun _ => by rw [List.length_append]; show 2 ≤ ks1.length + 1; omega, fun c u hc z => k2 c u (fun h => (f1 c h).elim hc fun y => by rw [y] at z; cases z) (k1 c u hc z), fun c h => (f2 c h).elim (f1 c) fun y => ?_, rfl⟩
      by_cases hn : N c
      · exact .inl hn
      · right
        cases z : H c with
        | none => rfl
        | some u => rw [k1 c u hn z] at y; cases y
    have h63 : ow1.length = 63 := by
      have := of_decide_eq_false (Bool.eq_false_iff.mpr hlt)
      omega
    replace h2k := h2k (by omega)
    clear hlt hmea
    obtain ⟨i, ks2, hks⟩ : ∃ i l, ks1 = i :: l := by
      cases ks1 with
      | nil => cases hk1
      | cons i l => exact ⟨i, l, rfl⟩
    have hi63 : i ≠ ow1.length := fun e => by
      rw [hks] at kr kl h2k
      cases ks2 with
      | nil => rw [List.length_singleton] at h2k; omega
      | cons j l =>
        have a := List.rel_of_pairwise_cons kr (List.mem_cons_self ..)
        have b := kl j (List.mem_cons_of_mem _ (List.mem_cons_self ..))
        omega
    have him : i ∈ ks1 := by
      rw [hks]
      exact List.mem_cons_self ..
    have hil := kl i him
    refine ⟨_, rfl, o, dx, fs, rfl, e1, nl _ (by decide), NB, o, ws.length, ow1, pc1, _, st1, fs, rfl, rb, fun ka H2 hka eka s2 => ?_⟩
    refine ⟨ka, _, _, num i, rfl, rfl, SqL.of eka, atI_nat (j := 0) (by rw [hks]; rfl), ?_⟩
    have r2 := r1.same s2
    refine ⟨_, rfl, _, rfl, N1, o, ws, ow1, pc1, vl1, ks1, st1, rfl, r2, fun la H3 hla sla s3 => ?_⟩
    have r3 := r2.same s3
    have sA : Same H1 H3 := s2.trans s3
    clear eka hka rb e1 nl sb r2
    refine ⟨_, rfl, (by show 2 ≤ sizeLine; decide), fun y1 hy1 => ?_⟩
    generalize hg : upd H3 y1 (HO.lst _) = H4
    have s4 : Same H3 H4 := hg ▸ same_new hy1
    have ey1 : H4 y1 = some (.lst [V.str "elder", num i]) := by
      rw [← hg]
      exact upd_same
    clear hg
    refine ⟨_, rfl, (by show 2 ≤ sizeLine; decide), fun y2 hy2 => ?_⟩
    generalize hg : upd H4 y2 (HO.lst _) = H5
    have s5 : Same H4 H5 := hg ▸ same_new hy2
    have ey2 : H5 y2 = some (.lst [V.str "elder", num i]) := by
      rw [← hg]
      exact upd_same
    clear hg
    refine ⟨(by show 2 ≤ sizeLine; decide), fun y3 hy3 => ?_⟩
    generalize hg : upd H5 y3 (HO.lst _) = H6
    have s6 : Same H5 H6 := hg ▸ same_new hy3
    have ey3 : H6 y3 = some (.lst [V.str "many", V.int 65]) := by
      rw [← hg]
      exact upd_same
    clear hg
    refine ⟨(by show 2 ≤ sizeLine; decide), fun y4 hy4 => ?_⟩
    generalize hg : upd H6 y4 (HO.lst _) = H7
    have s7 : Same H6 H7 := hg ▸ same_new hy4
    have ey4 : H7 y4 = some (.lst [V.str "many", V.int 66]) := by
      rw [← hg]
      exact upd_same
    clear hg
    refine ⟨(by show 0 ≤ sizeLine; decide), fun n5 hn5 => ?_⟩
    generalize hg : upd H7 n5 (HO.lst _) = H8
    have s8 : Same H7 H8 := hg ▸ same_new hn5
    have en5 : H8 n5 = some (.lst []) := by
      rw [← hg]
      exact upd_same
    clear hg
    refine ⟨(by show 2 ≤ sizeLine; decide), fun y5 hy5 => ?_⟩
    generalize hg : upd H8 y5 (HO.lst _) = H9
    have s9 : Same H8 H9 := hg ▸ same_new hy5
    have ey5 : H9 y5 = some (.lst [V.str "told", V.ref n5]) := by
      rw [← hg]
      exact upd_same
    clear hg
    refine ⟨(by show 5 ≤ sizeLine; decide), fun du hdu => ?_⟩
    generalize hg : upd H9 du (HO.lst _) = H10
    have s10 : Same H9 H10 := hg ▸ same_new hdu
    have edu : H10 du = some (.lst [V.ref y1, V.ref y2, V.ref y3, V.ref y4, V.ref y5]) := by
      rw [← hg]
      exact upd_same
    clear hg
    refine ⟨_, rfl, (by show 3 ≤ sizeLine; decide), fun x1 hx1 => ?_⟩
    generalize hg : upd H10 x1 (HO.tup _) = H11
    have s11 : Same H10 H11 := hg ▸ same_new hx1
    have ex1 : H11 x1 = some (.tup [num i, V.int 0, V.int 1]) := by
      rw [← hg]
      exact upd_same
    clear hg
    refine ⟨_, rfl, (by show 2 ≤ sizeLine; decide), fun t2 ht2 => ?_⟩
    generalize hg : upd H11 t2 (HO.tup _) = H12
    have s12 : Same H11 H12 := hg ▸ same_new ht2
    have et2 : H12 t2 = some (.tup [V.int 0, V.int 1]) := by
      rw [← hg]
      exact upd_same
    clear hg
    refine ⟨(by show 1 ≤ sizeLine; decide), fun l2 hl2 => ?_⟩
    generalize hg : upd H12 l2 (HO.lst _) = H13
    have s13 : Same H12 H13 := hg ▸ same_new hl2
    have el2 : H13 l2 = some (.lst [V.ref t2]) := by
      rw [← hg]
      exact upd_same
    clear hg
    refine ⟨(by show 2 ≤ sizeLine; decide), fun x2 hx2 => ?_⟩
    generalize hg : upd H13 x2 (HO.tup _) = H14
    have s14 : Same H13 H14 := hg ▸ same_new hx2
    have ex2 : H14 x2 = some (.tup [num i, V.ref l2]) := by
      rw [← hg]
      exact upd_same
    clear hg
    refine ⟨(by show 3 ≤ sizeLine; decide), fun x3 hx3 => ?_⟩
    generalize hg : upd H14 x3 (HO.tup _) = H15
    have s15 : Same H14 H15 := hg ▸ same_new hx3
    have ex3 : H15 x3 = some (.tup [V.int 63, V.int 0, V.int 1]) := by
      rw [← hg]
      exact upd_same
    clear hg
    refine ⟨(by show 2 ≤ sizeLine; decide), fun t4 ht4 => ?_⟩
    generalize hg : upd H15 t4 (HO.tup _) = H16
    have s16 : Same H15 H16 := hg ▸ same_new ht4
    have et4 : H16 t4 = some (.tup [V.int 0, V.int 1]) := by
      rw [← hg]
      exact upd_same
    clear hg
    refine ⟨(by show 2 ≤ sizeLine; decide), fun t5 ht5 => ?_⟩
    generalize hg : upd H16 t5 (HO.tup _) = H17
    have s17 : Same H16 H17 := hg ▸ same_new ht5
    have et5 : H17 t5 = some (.tup [V.int 0, V.int 2]) := by
      rw [← hg]
      exact upd_same
    clear hg
    refine ⟨(by show 2 ≤ sizeLine; decide), fun l4 hl4 => ?_⟩
    generalize hg : upd H17 l4 (HO.lst _) = H18
    have s18 : Same H17 H18 := hg ▸ same_new hl4
    have el4 : H18 l4 = some (.lst [V.ref t4, V.ref t5]) := by
      rw [← hg]
      exact upd_same
    clear hg
    refine ⟨(by show 2 ≤ sizeLine; decide), fun x4 hx4 => ?_⟩
    generalize hg : upd H18 x4 (HO.tup _) = H19
    have s19 : Same H18 H19 := hg ▸ same_new hx4
    have ex4 : H19 x4 = some (.tup [V.int 63, V.ref l4]) := by
      rw [← hg]
      exact upd_same
    clear hg
    refine ⟨(by show 0 ≤ sizeLine; decide), fun l5 hl5 => ?_⟩
    generalize hg : upd H19 l5 (HO.lst _) = H20
    have s20 : Same H19 H20 := hg ▸ same_new hl5
    have el5 : H20 l5 = some (.lst []) := by
      rw [← hg]
      exact upd_same
    clear hg
    refine ⟨(by show 2 ≤ sizeLine; decide), fun x5 hx5 => ?_⟩
    generalize hg : upd H20 x5 (HO.tup _) = H21
    have s21 : Same H20 H21 := hg ▸ same_new hx5
    have ex5 : H21 x5 = some (.tup [V.int 63, V.ref l5]) := by
      rw [← hg]
      exact upd_same
    clear hg
    refine ⟨(by show 5 ≤ sizeLine; decide), fun dd hdd => ?_⟩
    generalize hg : upd H21 dd (HO.lst _) = H22
    have s22 : Same H21 H22 := hg ▸ same_new hdd
    have edd : H22 dd = some (.lst [V.ref x1, V.ref x2, V.ref x3, V.ref x4, V.ref x5]) := by
      rw [← hg]
      exact upd_same
    clear hg
    replace ey1 : H22 y1 = _ := (s22 _ _ (s21 _ _ (s20 _ _ (s19 _ _ (s18 _ _ (s17 _ _ (s16 _ _ (s15 _ _ (s14 _ _ (s13 _ _ (s12 _ _ (s11 _ _ (s10 _ _ (s9 _ _ (s8 _ _ (s7 _ _ (s6 _ _ (s5 _ _ ey1))))))))))))))))))
    replace ey2 : H22 y2 = _ := (s22 _ _ (s21 _ _ (s20 _ _ (s19 _ _ (s18 _ _ (s17 _ _ (s16 _ _ (s15 _ _ (s14 _ _ (s13 _ _ (s12 _ _ (s11 _ _ (s10 _ _ (s9 _ _ (s8 _ _ (s7 _ _ (s6 _ _ ey2)))))))))))))))))
    replace ey3 : H22 y3 = _ := (s22 _ _ (s21 _ _ (s20 _ _ (s19 _ _ (s18 _ _ (s17 _ _ (s16 _ _ (s15 _ _ (s14 _ _ (s13 _ _ (s12 _ _ (s11 _ _ (s10 _ _ (s9 _ _ (s8 _ _ (s7 _ _ ey3))))))))))))))))
    replace ey4 : H22 y4 = _ := (s22 _ _ (s21 _ _ (s20 _ _ (s19 _ _ (s18 _ _ (s17 _ _ (s16 _ _ (s15 _ _ (s14 _ _ (s13 _ _ (s12 _ _ (s11 _ _ (s10 _ _ (s9 _ _ (s8 _ _ ey4)))))))))))))))
    replace en5 : H22 n5 = _ := (s22 _ _ (s21 _ _ (s20 _ _ (s19 _ _ (s18 _ _ (s17 _ _ (s16 _ _ (s15 _ _ (s14 _ _ (s13 _ _ (s12 _ _ (s11 _ _ (s10 _ _ (s9 _ _ en5))))))))))))))
    replace ey5 : H22 y5 = _ := (s22 _ _ (s21 _ _ (s20 _ _ (s19 _ _ (s18 _ _ (s17 _ _ (s16 _ _ (s15 _ _ (s14 _ _ (s13 _ _ (s12 _ _ (s11 _ _ (s10 _ _ ey5)))))))))))))
    replace edu : H22 du = _ := (s22 _ _ (s21 _ _ (s20 _ _ (s19 _ _ (s18 _ _ (s17 _ _ (s16 _ _ (s15 _ _ (s14 _ _ (s13 _ _ (s12 _ _ (s11 _ _ edu))))))))))))
    replace ex1 : H22 x1 = _ := (s22 _ _ (s21 _ _ (s20 _ _ (s19 _ _ (s18 _ _ (s17 _ _ (s16 _ _ (s15 _ _ (s14 _ _ (s13 _ _ (s12 _ _ ex1)))))))))))
    replace et2 : H22 t2 = _ := (s22 _ _ (s21 _ _ (s20 _ _ (s19 _ _ (s18 _ _ (s17 _ _ (s16 _ _ (s15 _ _ (s14 _ _ (s13 _ _ et2))))))))))
    replace el2 : H22 l2 = _ := (s22 _ _ (s21 _ _ (s20 _ _ (s19 _ _ (s18 _ _ (s17 _ _ (s16 _ _ (s15 _ _ (s14 _ _ el2)))))))))
    replace ex2 : H22 x2 = _ := (s22 _ _ (s21 _ _ (s20 _ _ (s19 _ _ (s18 _ _ (s17 _ _ (s16 _ _ (s15 _ _ ex2))))))))
    replace ex3 : H22 x3 = _ := (s22 _ _ (s21 _ _ (s20 _ _ (s19 _ _ (s18 _ _ (s17 _ _ (s16 _ _ ex3)))))))
    replace et4 : H22 t4 = _ := (s22 _ _ (s21 _ _ (s20 _ _ (s19 _ _ (s18 _ _ (s17 _ _ et4))))))
    replace et5 : H22 t5 = _ := (s22 _ _ (s21 _ _ (s20 _ _ (s19 _ _ (s18 _ _ et5)))))
    replace el4 : H22 l4 = _ := (s22 _ _ (s21 _ _ (s20 _ _ (s19 _ _ el4))))
    replace ex4 : H22 x4 = _ := (s22 _ _ (s21 _ _ (s20 _ _ ex4)))
    replace el5 : H22 l5 = _ := (s22 _ _ (s21 _ _ el5))
    replace ex5 : H22 x5 = _ := (s22 _ _ ex5)
    have sF : Same H3 H22 := fun c u z => (s22 _ _ (s21 _ _ (s20 _ _ (s19 _ _ (s18 _ _ (s17 _ _ (s16 _ _ (s15 _ _ (s14 _ _ (s13 _ _ (s12 _ _ (s11 _ _ (s10 _ _ (s9 _ _ (s8 _ _ (s7 _ _ (s6 _ _ (s5 _ _ (s4 _ _ z)))))))))))))))))))
    clear s22 s21 s20 s19 s18 s17 s16 s15 s14 s13 s12 s11 s10 s9 s8 s7 s6 s5 s4
    generalize H22 = HF at *
    have rF := r3.same sF
    have p63 : (V.int 63 : V) = num ow1.length := by rw [h63]; rfl
    have lw : ws.length ≤ 16 := sz.2
    have hall : ∀ (k : Nat) (x : V), [V.ref x1, V.ref x2, V.ref x3, V.ref x4, V.ref x5][k]? = some x → ∃ (xa : Addr) (things : List V), x = .ref xa ∧ HF xa = some (.tup things) ∧ ((∃ (CX : Addr) (xf : List (Str × V)) (vals : List V) (ds : List PyData), ToldB K HF CA CN CP CW CG CM ws.length ow1 ks1 things CX xf vals ∧ (fullD i)[k]? = some (.list ds) ∧ ∀ H2, DpAll K H2 vals ds) ∨ (NoneB HF ow1 ks1 things ∧ (fullD i)[k]? = some toD)) := by
      have el : ∀ H2 : Hp, DpAll K H2 [.str "elder", num i] [.str "elder", .int ((i : Nat) : Int)] := fun H2 => .cons (.str _) (.cons (.int _) .nil)
      intro k x hx
      match k, hx with
      | 0, hx =>
        cases hx
        exact ⟨x1, _, rfl, ex1, .inl ⟨CA, _, _, _, .inl (.inr (.inr (.inr (.inl ⟨i, 0, 1, rfl, hil, him, by omega, by decide, by decide, hi63, rfl, rfl, rfl⟩)))), rfl, el⟩⟩
      | 1, hx =>
        cases hx
        refine ⟨x2, _, rfl, ex2, .inl ⟨CA, _, _, _, .inr (.inr (.inl ⟨i, l2, [.ref t2], [(0, 1)], rfl, hil, him, el2, chRep (k := 1) et2, fun c hc => ?_, by decide, by simp, hi63, rfl, rfl, rfl⟩)), rfl, el⟩⟩
        rw [List.mem_singleton.mp hc]
        exact ⟨by show 0 < ws.length; omega, by decide, by decide⟩
      | 2, hx =>
        cases hx
        refine ⟨x3, _, rfl, ex3, .inl ⟨CM, _, _, [.str "many", .int 65], .inl (.inr (.inr (.inr (.inr ⟨0, 1, by rw [p63]; rfl, hk1, by omega, by decide, by decide, by omega, rfl, rfl, rfl⟩)))), rfl, fun H2 => ?_⟩⟩
        rw [h63]
        exact .cons (.str _) (.cons (.int _) .nil)
      | 3, hx =>
        cases hx
        refine ⟨x4, _, rfl, ex4, .inl ⟨CM, _, _, [.str "many", .int 66], .inr (.inr (.inr ⟨l4, [.ref t4, .ref t5], [(0, 1), (0, 2)], by rw [p63], hk1, el4, ⟨rfl, fun j c hj => ?_⟩, fun c hc => ?_, by decide, by simp, by show 64 < ow1.length + 1 + 2; omega, rfl, rfl, rfl⟩)), rfl, fun H2 => ?_⟩⟩
        · match j, hj with
          | 0, hj => cases hj; exact ⟨t4, rfl, et4⟩
          | 1, hj => cases hj; exact ⟨t5, rfl, et5⟩
        · rcases List.mem_cons.mp hc with rfl | hc
          · exact ⟨by show 0 < ws.length; omega, by decide, by decide⟩
          · rw [List.mem_singleton.mp hc]
            exact ⟨by show 0 < ws.length; omega, by decide, by decide⟩
        · rw [h63]
          exact .cons (.str _) (.cons (.int _) .nil)
      | 4, hx =>
        cases hx
        exact ⟨x5, _, rfl, ex5, .inr ⟨⟨ow1.length, l5, by rw [p63], Nat.le_refl _, hk1, .inl el5⟩, rfl⟩⟩
      | k + 5, hx => cases hx
    refine ⟨_, rfl, dd, rfl, ⟨_, SqL.of edd⟩, fun B hBn => ?_⟩
    refine lc_it (walk_list (xs := [V.ref x1, V.ref x2, V.ref x3, V.ref x4, V.ref x5])) (fun k H' => Same HF H' ∧ ∃ zs : List V, H' B = some (.lst zs) ∧ zs.length = k ∧ ∀ H2, (∀ c u, c ≠ B → H' c = some u → H2 c = some u) → DpAll K H2 zs ((fullD i).take k)) ⟨same_new hBn, [], upd_same, rfl, fun _ _ => .nil⟩ (fun k H' _ hP => SqL.of (hP.1 _ _ edd)) (fun k v Ha Hb hk5 hP hY => ?_) (fun Hc hP => ?_)
    · obtain ⟨sa, zs, eB, hlen, hdp⟩ := hP
      obtain ⟨rfl, hxk⟩ := hY
      refine ⟨rfl, yesI ?_⟩
      obtain ⟨xa, things, rfl, exa, hcase⟩ := hall k v hxk
      have rb := rF.same sa
      obtain ⟨NB2, fs2, rb2, sb2⟩ := rb.b
      have fin : ∀ (l : Addr) (Hd : Hp) (d : PyData), Hb l = none → (fullD i)[k]? = some d → (∀ H2, (∀ c u, c ≠ B → Hd c = some u → H2 c = some u) → Dp K H2 (.ref l) d) → Same Hb Hd → ∃ acc, Hd B = some (.lst acc) ∧ acc.length < sizeLine ∧ (Same HF (upd Hd B (.lst (acc ++ [.ref l]))) ∧ ∃ zs : List V, (upd Hd B (.lst (acc ++ [.ref l]))) B = some (.lst zs) ∧ zs.length = k + 1 ∧ ∀ H2, (∀ c u, c ≠ B → (upd Hd B (.lst (acc ++ [.ref l]))) c = some u → H2 c = some u) → DpAll K H2 zs ((fullD i).take (k + 1))) := fun l Hd d hl hd hdl sd => by
        refine ⟨zs, sd _ _ eB, by rw [hlen]; exact small1000 (by show k ≤ 1000; have : k < 5 := hk5; omega), fun c u z => ?_, zs ++ [.ref l], upd_same, by rw [List.length_append, hlen]; rfl, fun H2 k2 => ?_⟩
        · rw [upd_ne (ne_of_none z hBn)]
          exact sd _ _ (sa _ _ z)
        · have k3 : ∀ c u, c ≠ B → Hd c = some u → H2 c = some u := fun c u hc z => k2 c u hc (by rw [upd_ne hc]; exact z)
          rw [List.take_add_one, hd]
          exact dpSnoc (hdp H2 fun c u hc z => k3 c u hc (sd _ _ z)) (hdl H2 k3)
      refine ⟨_, rfl, _, rfl, NB2, o, xa, ws.length, ow1, pc1, ks1, st1, fs2, things, rfl, rb2, sa _ _ exa, ?_⟩
      rcases hcase with ⟨CX, xf, vals, ds, tb, hd, hv⟩ | ⟨nb, hd⟩
      · refine .inl ⟨CX, xf, vals, tb.same sa, fun l Hd hl el sd => ?_⟩
        have lB : l ≠ B := (ne_of_none eB hl).symm
        exact fin l Hd _ hl hd (fun H2 k2 => .lst (SqL.of (k2 _ _ lB el)) (hv H2)) sd
      · refine .inr ⟨nb.same sa, fun l l3 Hd hl el el3 sd => ?_⟩
        have lB : l ≠ B := (ne_of_none eB hl).symm
        have l3B : l3 ≠ B := fun e => by
          subst e
          have hz : zs = [] := by
            have := sd _ _ eB
            rw [el3] at this
            cases this
            rfl
          have k4 : k = 4 := by
            match k, hd with
            | 0, hd => cases hd
            | 1, hd => cases hd
            | 2, hd => cases hd
            | 3, hd => cases hd
            | 4, _ => rfl
            | k + 5, hd => cases hd
          rw [hz, k4] at hlen
          cases hlen
        exact fin l Hd _ hl hd (fun H2 k2 => .lst (SqL.of (k2 _ _ lB el)) (.cons (.str _) (.cons (.lst (SqL.of (k2 _ _ l3B el3)) .nil) .nil))) sd
    · obtain ⟨sc, zs, eB, hlen, hdp⟩ := hP
      have hz := hdp Hc fun c u _ z => z
      have hdu : DpAll K Hc [V.ref y1, V.ref y2, V.ref y3, V.ref y4, V.ref y5] (fullD i) := .cons (.lst (SqL.of (sc _ _ ey1)) (.cons (.str _) (.cons (.int _) .nil))) (.cons (.lst (SqL.of (sc _ _ ey2)) (.cons (.str _) (.cons (.int _) .nil))) (.cons (.lst (SqL.of (sc _ _ ey3)) (.cons (.str _) (.cons (.int _) .nil))) (.cons (.lst (SqL.of (sc _ _ ey4)) (.cons (.str _) (.cons (.int _) .nil))) (.cons (.lst (SqL.of (sc _ _ ey5)) (.cons (.str _) (.cons (.lst (SqL.of (sc _ _ en5)) .nil) .nil))) .nil))))
      refine ⟨_, rfl, .list (fullD i), .list (fullD i), .lst (SqL.of eB) hz, .lst (SqL.of (sc _ _ edu)) hdu, sh_full i, sh_full i, ?_⟩
      rw [PySem.SeqAt.eqv_refl _ (can_full i)]
      refine ⟨_, rfl, iteT ?_⟩
      have rc := rF.same sc
      refine ⟨_, rfl, _, rfl, N1, o, ws, ow1, pc1, vl1, ks1, st1, rfl, rc, fun lb Hd hlb slb sd => ?_⟩
      have s3d : Same H3 Hd := sF.trans (sc.trans sd)
      refine ⟨_, rfl, seenD ws ow1 pc1 vl1 ks1 st1, seenD ws ow1 pc1 vl1 ks1 st1, slb Hd (fun c u _ z => z) (fun c ys z => z), sla Hd (fun c u h z => s3d _ _ z) (fun c ys z => s3d _ _ z), sh_seen .., sh_seen .., ?_⟩
      rw [PySem.SeqAt.eqv_refl _ (can_seen ..)]
      exact q Hd N1 _ _ _ _ _ (rc.same sd) h63 (h63 ▸ hk1) h2k (fun c u hc z => s3d _ _ (sA _ _ (k1 c u hc z))) f1
end
end K41
namespace K41
open PySem PySem.Spec PyProof.Rows L2 Gd Gs Gx Ge
open C8 (clsBody Met pe_mt pe_mt0)
theorem up2_same {H : Hp} {o du C ob : Addr} (n1 : H o = none) (n2 : H du = none) : Same H (upd (upd H du (HO.own ob)) o (HO.ins C du [])) := fun c v z => by
  rw [upd_ne (ne_of_none z n1), upd_ne (ne_of_none z n2)]
  exact z
theorem upd_none {H : Hp} {a c : Addr} {u : HO} (h : (upd H a u) c = none) : H c = none := by
  by_cases e : c = a
  · rw [e, upd_same] at h
    cases h
  · rwa [upd_ne e] at h
theorem cut_k {xs : List V} {k : Nat} : cutV xs none (some ((k : Nat) : Int)) = xs.take k := by
  unfold cutV
  rw [HT.sIx_none, HT.sIx_nat, List.drop_zero]
  refine List.take_eq_take_iff.mpr ?_
  omega
/-- the row, over what was there -/
structure I0 (C CL : Addr) (H0 H : Hp) (o : Addr) (N : Addr → Prop) (ws : List Int) (ow pc : List Nat) (vl : List Int) (ks : List Nat) (st : Int) : Prop where
  sm : Same H0 H
  row : RowA N H o C CL ws ow pc vl ks st
  fr : ∀ c, N c → H0 c = none
  nw : ow.length ∈ ks
section
variable {H0 H H' : Hp} {o C CL b : Addr} {m : Int} {N N' : Addr → Prop} {ws : List Int} {ow pc ow' pc' : List Nat} {vl vl' : List Int} {ks ks' : List Nat} {st st' : Int}
theorem I0.same (v : I0 C CL H0 H o N ws ow pc vl ks st) (s : Same H H') : I0 C CL H0 H' o N ws ow pc vl ks st := ⟨v.sm.trans s, v.row.same s, v.fr, v.nw⟩
theorem I0.kb (v : I0 C CL H0 H o N ws ow pc vl ks st) (hB : BoxD H b m) (fb : H0 b = none) (nN : ¬ N b) (k : ∀ c u, c ≠ b → H c = some u → H' c = some u) : I0 C CL H0 H' o N ws ow pc vl ks st :=
  ⟨fun c u z => k c u (ne_of_none z fb) (v.sm _ _ z), v.row.kb hB nN k, v.fr, v.nw⟩
theorem I0.step (v : I0 C CL H0 H o N ws ow pc vl ks st) (r : RowA N' H' o C CL ws ow' pc' vl' ks' st') (k : ∀ c u, ¬ N c → H c = some u → H' c = some u) (f : ∀ c, N' c → N c ∨ H c = none) (nw : ow'.length ∈ ks') : I0 C CL H0 H' o N' ws ow' pc' vl' ks' st' :=
  ⟨fun c u z => k c u (fun h => by rw [v.fr c h] at z; cases z) (v.sm _ _ z), r, fun c h => (f c h).elim (v.fr c) (none_of' v.sm), nw⟩
theorem I0.kr (v : I0 C CL H0 H o N ws ow pc vl ks st) : ks.Pairwise (· < ·) ∧ (∀ i, i ∈ ks → i ≤ ow.length) ∧ ks.length ≤ 64 := by
  obtain ⟨NB, fs, rb, sb⟩ := v.row.b
  refine ⟨rb.kr, rb.kl, ?_⟩
  have := up_len rb.kr rb.kl
  have := v.row.fit.few
  omega
end
section
variable {P : Program} {w : World} {K : PySem.W.Frag} {mg : Str → Option Value} {base : Heap} {C CL CA fA CN fN CP fP CS fS CW fW CG fG CM fM CE : Addr}
def spLaw (K : PySem.W.Frag) : Sp := fun vs H Q _ => ∃ (a : Addr) (ns : List Int), vs = [.ref a] ∧ SqL K H a (ns.map V.int) ∧ ns.length ≤ 63 ∧ ∀ H', Q (.bl true) H'
theorem ok_law {fP : Addr} {fdP : FuncData} (T : Txt K mg) (OC : RowC K C) {f : Addr} {fd : FuncData} (F : Fun K "law" "law" s_law f fd) (cP : mg "Lined" = some (.ref C)) (M_Lined : Mk K C fP) (B_Lined : Binds K fdP ["self", "worths"] []) (G_Lined : FnOk P w K mg base CX0 4 fP fdP ["self", "worths"] (spInitA C CL))
    (c__law_cell_at : CalG P w K mg base 1 "_law_cell_at" (Gd.spCell K)) (c__law_box : CalG P w K mg base 1 "_law_box" spBoxD) (c__law_take : CalG P w K mg base 1 "_law_take" spTakeD) (m_many : Met P w K mg base 1 C "many" (spRMany C CL) []) (m_makes : Met P w K mg base 1 C "makes" (spMakes C CL) []) (m_put : Met P w K mg base 23 C "put" (spPut C CL) []) (m_put_all : Met P w K mg base 23 C "put_all" (spPutAll C CL false) []) (m_let_go : Met P w K mg base 8 C "let_go" (spGo C CL) []) (c__law_seen : CalG P w K mg base 4 "_law_seen" (spSeen K C CL)) (c__law_told : CalG P w K mg base 25 "_law_told" (spTold K CA CN CP CW CG CM C CL)) (c__law_bad_right : CalG P w K mg base 26 "_law_bad_right" (spBr C CL)) (c__law_asks_refused : CalG P w K mg base 11 "_law_asks_refused" (spAr C CL)) (c__law_full_right : CalG P w K mg base 26 "_law_full_right" (spFr C CL)) : FnG P w K mg base CX0 27 f fd ["_law_script"] (spLaw K) := by
  refine okG F sc_law (fun vs H Q E h => ?_) (fun cdv A outer s H vs Q E hG hr h => ?_)
  · obtain ⟨a, ns, rfl, _⟩ := h
    rfl
  · obtain ⟨a, ns, rfl, hS, hl, q⟩ := h
    refine ⟨_, (pss_cons (ps_set (i := 1) sc_law.nd rfl (Or.inl rfl) (pe_op op_add pe_int (pe_g c__law_take hG (hr.mono (by decide)) (by rfl) (pa_cons (pe_g c__law_box hG (hr.mono (by decide)) (by rfl) (pa_cons (pe_g c__law_cell_at hG (hr.mono (by decide)) (by rfl) (pa_cons (pv 0) (pa_cons pe_int pa_nil))) pa_nil)) (pa_cons pe_int pa_nil)))))
      (pss_cons (ps_set (i := 2) sc_law.nd rfl (Or.inl rfl) (pe_make M_Lined G_Lined (hr.mono (by decide)) rfl cP B_Lined .nil pass0 (pa_cons (pe_listRg (by rfl) (by rfl) T.t_list (prg_1 (by rfl) T.b_range (pv 1))) pa_nil)))
      (pss_cons (ps_for PassesOwn.never rfl (pi_range1 rfl T.b_range (pa_cons (pe_callB (call_max2 rfl) (by rfl) T.b_max boot_max_ (pa_cons pe_int (pa_cons (pe_callB (call_min2 rfl) (by rfl) T.b_min boot_min_ (pa_cons pe_int (pa_cons (pe_callB call_len (by rfl) T.b_len boot_len_ (pa_cons (pv 0) pa_nil)) pa_nil))) pa_nil))) pa_nil)) (pg_name (i := 3) sc_law.nd rfl (Or.inl rfl))
          (pss_cons (ps_set (i := 4) sc_law.nd rfl (Or.inl rfl) (pe_g c__law_box hG (hr.mono (by decide)) (by rfl) (pa_cons (pe_g c__law_cell_at hG (hr.mono (by decide)) (by rfl) (pa_cons (pv 0) (pa_cons (pv 3) pa_nil))) pa_nil)))
          (pss_cons (ps_set (i := 5) sc_law.nd rfl (Or.inl rfl) (pe_op op_sub (pe_mt0 m_many hr (by decide) (pv 2)) pe_int))
          (pss_cons (ps_set (i := 6) sc_law.nd rfl (Or.inl rfl) (pe_cmpR op_eq (pe_g c__law_take hG (hr.mono (by decide)) (by rfl) (pa_cons (pv 4) (pa_cons pe_int pa_nil))) pe_int (nomark _)))
          (pss_cons (ps_expr (pe_mt m_put hr (by decide) (pv 2) (pa_cons (pv 5) (pa_cons (pe_g c__law_take hG (hr.mono (by decide)) (by rfl) (pa_cons (pv 4) (pa_cons (pv 1) pa_nil))) (pa_cons (pe_g c__law_take hG (hr.mono (by decide)) (by rfl) (pa_cons (pv 4) (pa_cons pe_int pa_nil))) pa_nil)))))
          (pss_cons (ps_if (PW.pt (pw_and (pt_val (pv 6)) (pw_and1 (pt_cmpR op_in_seq (pv 5) (pe_mt0 m_makes hr (by decide) (pv 2)) (by rfl)))))
              (pss_one (ps_expr (pe_mt m_let_go hr (by decide) (pv 2) (pa_cons (pv 5) pa_nil)))) pss_nil)
          (pss_cons (ps_if (PW.pt (pw_or (pt_not (pt_val (pe_g c__law_bad_right hG (hr.mono (by decide)) (by rfl) (pa_cons (pv 4) (pa_cons (pv 2) (pa_cons (pv 1) pa_nil)))))) (pw_or1 (pt_not (pt_val (pe_g c__law_bad_right hG (hr.mono (by decide)) (by rfl) (pa_cons (pv 4) (pa_cons (pv 2) (pa_cons (pv 1) pa_nil)))))))))
              (pss_one (ps_ret pe_bl)) pss_nil)
          (pss_cons (ps_set (i := 7) sc_law.nd rfl (Or.inl rfl) (pe_g c__law_seen hG (hr.mono (by decide)) (by rfl) (pa_cons (pv 2) (pa_cons (pv 1) pa_nil))))
          (pss_one (ps_if (PW.pt (pw_or (pt_not (pt_val (pe_g c__law_asks_refused hG (hr.mono (by decide)) (by rfl) (pa_cons (pv 4) (pa_cons (pv 2) (pa_cons (pv 1) pa_nil)))))) (pw_or1 (pt_cmpR (op_neD (hu64 hr)) (pe_g c__law_seen hG (hr.mono (by decide)) (by rfl) (pa_cons (pv 2) (pa_cons (pv 1) pa_nil))) (pv 7) (nomark _)))))
              (pss_one (ps_ret pe_bl)) pss_nil))))))))))
      (pss_cons (ps_if (PW.pt (pw_and (pt_cmpR op_eq (pe_op op_mod (pe_g c__law_cell_at hG (hr.mono (by decide)) (by rfl) (pa_cons (pv 0) (pa_cons pe_int pa_nil))) pe_int) pe_int (nomark _)) (pw_and1 (pt_not (pt_val (pe_g c__law_full_right hG (hr.mono (by decide)) (by rfl) (pa_cons (pv 2) (pa_cons (pv 1) pa_nil))))))))
          (pss_one (ps_ret pe_bl)) pss_nil)
      (pss_cons (ps_expr (pe_mt m_put_all hr (by decide) (pv 2) (pa_cons (pe_op op_sub (pe_mt0 m_many hr (by decide) (pv 2)) pe_int) (pa_cons (pe_slice sl_list (pe_lst (pa_cons (pe_tup (pa_cons pe_int (pa_cons pe_int pa_nil))) (pa_cons (pe_tup (pa_cons pe_int (pa_cons pe_int pa_nil))) pa_nil))) po_none (po_some (pe_op op_sub pe_int (pe_mt0 m_many hr (by decide) (pv 2))))) pa_nil))))
      (pss_cons (ps_set (i := 5) sc_law.nd rfl (Or.inl rfl) (pe_op op_sub (pe_mt0 m_many hr (by decide) (pv 2)) pe_int))
      (pss_cons (ps_if (pt_cmpR op_eq (pe_callB call_len (by rfl) T.b_len boot_len_ (pa_cons (pe_mt0 m_makes hr (by decide) (pv 2)) pa_nil)) pe_int (nomark _))
          (pss_one (ps_ret pe_bl)) pss_nil)
      (pss_cons (ps_expr (pe_mt m_let_go hr (by decide) (pv 2) (pa_cons (pv 5) pa_nil)))
      (pss_cons (ps_set (i := 8) sc_law.nd rfl (Or.inl rfl) (pe_ix ix_list (pe_mt0 m_makes hr (by decide) (pv 2)) (pe_un un_neg pe_int) (fun _ _ => rfl)))
      (pss_one (ps_ret (pe_and (pe_cmpR (op_eqD (hu64 hr)) (pe_g c__law_told hG (hr.mono (by decide)) (by rfl) (pa_cons (pv 2) (pa_cons (pe_tup (pa_cons (pv 5) (pa_cons pe_int (pa_cons pe_int pa_nil)))) pa_nil))) (pe_lst (pa_cons pe_str (pa_cons (pv 5) pa_nil))) (nomark _)) (pe_one (pe_cmpR (op_eqD (hu64 hr)) (pe_g c__law_told hG (hr.mono (by decide)) (by rfl) (pa_cons (pv 2) (pa_cons (pe_tup (pa_cons (pv 8) (pa_cons pe_int (pa_cons pe_int pa_nil)))) pa_nil))) (pe_lst (pa_cons pe_str (pa_cons (pv 8) pa_nil))) (nomark _))))))))))))))), ?_⟩
    refine ⟨_, rfl, a, ns, 0, rfl, hS, hl, by decide, fun z => ⟨z, rfl, fun b0 H1 hb0 hB1 kb0 => ?_⟩⟩
    refine ⟨b0, 15, 0, rfl, hB1, by decide, by decide, by decide, fun x H2 x0 x1 hB2 k2 => ?_⟩
    have s2 : Same H H2 := fun c v z => (k2 c (ne_of_none z hb0)).trans (by rw [kb0 c (ne_of_none z hb0)]; exact z)
    have hS2 := s2.seq hS
    clear hB2 k2 hB1 kb0 hb0
    obtain ⟨ws, hws⟩ : ∃ ws : List Int, ws = (List.range (2 + x).toNat).map fun i : Nat => (0 + (i : Nat) : Int) := ⟨_, rfl⟩
    have hwl : ws.length = (2 + x).toNat := by rw [hws, List.length_map, List.length_range]
    have w2 : 2 ≤ ws.length := by omega
    have w16 : ws.length ≤ 16 := by omega
    refine ⟨_, _, rfl, rfl, ?_⟩
    have hsz : (fun (i j : Int) => V.int (i + j)) 2 x = num ws.length := by
      show V.int _ = V.int _
      congr 1
      omega
    rw [hsz]
    refine ⟨_, rfl, _, rfl, RgOk.of_le (by decide) (by omega) (by decide) (by omega), fun hd hhd => ?_⟩
    have hrg : rgV 0 ((ws.length : Nat) : Int) = ws.map V.int := by
      unfold rgV
      rw [Int.sub_zero, Int.toNat_natCast, hwl, hws, List.map_map]
      rfl
    rw [hrg]
    have s3 := same_new (o := .lst (ws.map V.int)) hhd
    generalize hH3 : upd H2 hd (.lst (ws.map V.int)) = H3 at *
    have ehd : H3 hd = some (.lst (ws.map V.int)) := by
      rw [← hH3]
      exact upd_same
    clear hH3
    have hwb : ∀ y, y ∈ ws → -big30 ≤ y ∧ y ≤ big30 := fun y hy => by
      rw [hws] at hy
      obtain ⟨k, hk, rfl⟩ := List.mem_map.mp hy
      have := List.mem_range.mp hk
      have := b30
      omega
    intro o du n1 n2 ne1
    have u4 := fun ob => up2_same (C := C) (ob := ob) n1 n2
    refine ⟨o, du, hd, ws, rfl, upd_same, .inl (u4 _ _ _ ehd), by omega, w16, hwb, fun H5 N1 r5 k5 f5 => ?_⟩
    have s5 : Same H3 H5 := fun c v z => k5 c v (ne_of_none z n1) (u4 _ _ _ z)
    have f5 : ∀ c, N1 c → H3 c = none := fun c h => by
      rcases f5 c h with rfl | z
      · exact n1
      · exact upd_none (upd_none z)
    clear k5 u4 n1 n2 ne1 hwb hrg hsz
    refine ⟨rfl, ?_⟩
    have s25 : Same H2 H5 := s3.trans s5
    refine ⟨_, rfl, .ref a, _, rfl, .inl ⟨_, s25.seq hS2, rfl⟩, _, _, rfl, _, _, rfl, ?_⟩
    have sz2 : ws.length ≤ 16 := w16
    have v5 : I0 C CL H2 H5 o N1 ws [] [] [] [0] 0 := ⟨s25, r5, fun c h => none_of' s3 (f5 c h), List.mem_singleton.mpr rfl⟩
    clear r5 f5 s5 ehd s3 hhd
    refine ⟨_, rfl, ?_, ?_, ?_⟩
    · split <;> split <;> omega
    · split <;> split <;> omega
    refine for_range (fun k σ H' => ∃ (N : Addr → Prop) (ow pc : List Nat) (vl : List Int) (ks : List Nat) (st : Int) (y3 y4 y5 y6 y7 : Option V), σ = [some (.ref a), some (num ws.length), some (.ref o), y3, y4, y5, y6, y7, none] ∧ I0 C CL H2 H' o N ws ow pc vl ks st ∧ ow.length = k)
      ⟨_, _, _, _, _, _, none, none, none, none, none, rfl, v5, rfl⟩ (fun k σ H7 hk hP => ?_) (fun σ H7 hP => ?_)
    · obtain ⟨N, ow, pc, vl, ks, st, y3, y4, y5, y6, y7, rfl, v7, owk⟩ := hP
      have hk20 : k < 20 := by
        revert hk
        split <;> split <;> omega
      clear hk v5
      refine ⟨_, rfl, _, rfl, a, ns, _, rfl, v7.sm.seq hS2, hl, by omega, fun z => ⟨z, rfl, fun b H8 hb hB kb => ?_⟩⟩
      have fb : H2 b = none := none_of' v7.sm hb
      have s78 : Same H7 H8 := fun c u z => by rw [kb c (ne_of_none z hb)]; exact z
      have nb : ¬ N b := fun h => (v7.row.laid b h).ne hb
      have v8 := v7.same s78
      clear v7 s78 kb hb
      obtain ⟨NB, fs, rb, sb⟩ := v8.row.b
      obtain ⟨dx, e1, nl⟩ := rb.ins
      refine ⟨_, rfl, o, dx, fs, rfl, e1, nl _ (by decide), NB, o, ws.length, ow, pc, ks, st, fs, rfl, rb, _, _, rfl, rfl, ?_⟩
      have hnew : (fun (i j : Int) => V.int (i - j)) ((ow.length + 1 : Nat) : Int) 1 = num ow.length := by
        show V.int _ = V.int _
        congr 1
        omega
      rw [hnew]
      refine ⟨_, rfl, b, 4, 0, rfl, hB, by decide, by decide, by decide, fun g H9 g0 g1 hB9 k9 => ⟨rfl, ?_⟩⟩
      obtain ⟨go, hgo⟩ : ∃ go : Bool, go = decide (V.int g = V.int 0) := ⟨_, rfl⟩
      rw [← hgo]
      have v9 := v8.kb hB fb nb fun c u hc z => (k9 c hc).trans z
      obtain ⟨dx, fs, e9, nl⟩ := v9.row.ins
      refine ⟨_, rfl, o, dx, fs, rfl, e9, nl _ (by decide), _, rfl, _, rfl, _, rfl, b, (ws.length : Nat), 0 + 1, rfl, hB9, by decide, by omega, by omega, fun pl H10 p0 p1 hB10 k10 => ?_⟩
      have v10 := v9.kb hB9 fb nb fun c u hc z => (k10 c hc).trans z
      refine ⟨_, rfl, b, 9, 0 + 1 + 1, rfl, hB10, by decide, by decide, by decide, fun wv H11 q0 q1 hB11 k11 => ?_⟩
      have v11 := v10.kb hB10 fb nb fun c u hc z => (k11 c hc).trans z
      obtain ⟨j, rfl⟩ : ∃ j : Nat, pl = j := ⟨pl.toNat, by omega⟩
      have few := v11.row.fit.few
      have k64 := v11.kr.2.2
      refine ⟨N, o, ws, ow, pc, vl, ks, st, j, wv, rfl, v11.row, v11.nw, by omega, by omega, by omega, by rw [b30]; omega, by rw [b30]; omega, fun H12 N' r12 k12 f12 => ?_⟩
      have hl1 : (ow ++ [ow.length]).length = ow.length + 1 := by rw [List.length_append]; rfl
      have v12 := v11.step r12 k12 f12 (by rw [hl1]; exact List.mem_append.mpr (.inr (List.mem_singleton.mpr rfl)))
      have b11 : H11 b ≠ none := by
        obtain ⟨u, hu⟩ := hB11.some
        rw [hu]
        simp
      have nb12 : ¬ N' b := fun h => (f12 b h).elim nb b11
      have hB12 := hB11.kp (H' := H12) fun u z => k12 _ _ nb z
      have old : ow.length ∈ ks := v11.nw
      have klo := v11.kr.2.1
      clear k12 f12 v11 v10 v9 v8 hB11 hB10 hB9 hB k11 k10 k9 rb e1 e9 r12 hgo
      refine' joinH (Pre := fun H3 => ∃ (N : Addr → Prop) (ks : List Nat), I0 C CL H2 H3 o N ws (ow ++ [ow.length]) (pc ++ [j]) (vl ++ [wv]) ks (st + ((1 : Nat) : Int)) ∧ ¬ N b ∧ BoxD H3 b (0 + 1 + 1 + 1)) (fun rest => ?main) ?rest
      case main =>
        refine ⟨_, rfl, go, rfl, ?_⟩
        refine ite2 (fun _ => ?_) (fun _ => iteF (rest _ ⟨N', _, v12, nb12, hB12⟩))
        · skip
          obtain ⟨NB2, fs2, rb2, sb2⟩ := v12.row.b
          obtain ⟨dx2, e12, nl2⟩ := rb2.ins
          refine ⟨_, rfl, _, rfl, o, dx2, fs2, rfl, e12, nl2 _ (by decide), NB2, o, ws.length, _, _, _, _, fs2, rfl, rb2, fun ka H13 hka eka s13 => ?_⟩
          refine ⟨ka, _, rfl, .inl (SqL.of eka), rfl, flat_nums _, ?_⟩
          have old2 : ow.length ∈ ks ++ [ow.length + 1] := List.mem_append.mpr (.inl old)
          rw [in_nums old2]
          refine ⟨_, rfl, iteT ?_⟩
          have v13 := v12.same s13
          have hB13 := hB12.kp (H' := H13) fun u z => s13 _ _ z
          obtain ⟨dx3, fs3, e13, nl3⟩ := v13.row.ins
          have p1 : 1 ≤ ks.length := List.length_pos_of_mem old
          refine ⟨_, rfl, o, dx3, fs3, rfl, e13, nl3 _ (by decide), _, rfl, N', o, ws, _, _, _, ks ++ [ow.length + 1], _, ow.length, rfl, v13.row, by rw [hl1]; omega, old2, by rw [List.length_append]; show 2 ≤ ks.length + 1; omega, v13.kr.2.2, fun a4 H14 xs N4 ha4 ea4 px r14 na4 k14 f14 => ?_⟩
          have b13 : H13 b ≠ none := by
            obtain ⟨u, hu⟩ := hB13.some
            rw [hu]
            simp
          refine rest H14 ⟨N4, _, v13.step r14 k14 f14 ?_, fun h => (f14 b h).elim nb12 b13, hB13.kp fun u z => k14 _ _ nb12 z⟩
          rw [hl1]
          exact (List.mem_erase_of_ne (by omega)).mpr (List.mem_append.mpr (.inr (List.mem_singleton.mpr rfl)))
      case rest =>
        rintro H13 ⟨N2, ks2, v13, nb13, hB13⟩
        refine ⟨_, rfl, _, rfl, _, rfl, N2, b, o, _, ws, _, _, _, ks2, _, rfl, v13.row, hB13, by decide, nb13, w2, fun H14 hB14 k14 => ⟨_, rfl, iteF ?_⟩⟩
        have v14 := v13.kb hB13 fb nb13 k14
        refine ⟨_, rfl, _, rfl, _, rfl, N2, b, o, _, ws, _, _, _, ks2, _, rfl, v14.row, hB14, by decide, nb13, w2, fun H15 hB15 k15 => ⟨_, rfl, iteF ?_⟩⟩
        have v15 := v14.kb hB14 fb nb13 k15
        refine ⟨_, rfl, _, rfl, N2, o, ws, _, _, _, ks2, _, rfl, v15.row, fun la H16 hla sla s16 => ?_⟩
        have v16 := v15.same s16
        have hB16 := hB15.kp (H' := H16) fun u z => s16 _ _ z
        obtain ⟨NB3, fs3, rb3, sb3⟩ := v16.row.b
        refine ⟨_, rfl, _, rfl, _, rfl, NB3, b, o, _, ws.length, _, _, ks2, _, fs3, rfl, rb3, hB16, by decide, fun h => nb13 (sb3 _ h), List.ne_nil_of_mem v16.nw, v16.kr.2.2, v16.row.fit.few, fun H17 hB17 k17 => ⟨_, rfl, iteF ?_⟩⟩
        have v17 := v16.kb hB16 fb nb13 k17
        refine ⟨_, rfl, _, rfl, N2, o, ws, _, _, _, ks2, _, rfl, v17.row, fun lb H18 hlb slb s18 => ?_⟩
        have f1618 : ∀ c u, c ≠ b → H16 c = some u → H18 c = some u := fun c u hc z => s18 _ _ (k17 c u hc z)
        have nb15 : H15 b ≠ none := by
          obtain ⟨u, hu⟩ := hB15.some
          rw [hu]
          simp
        refine ⟨_, rfl, seenD ws _ _ _ ks2 _, seenD ws _ _ _ ks2 _, slb H18 (fun c u _ z => z) (fun c ys z => z), sla H18 (fun c u h z => f1618 c u (fun e => nb15 (e ▸ h)) z) (fun c ys z => f1618 c _ (fun e => by
          obtain ⟨_, _, _, _, hb, _⟩ := hB16
          rw [e, hb] at z
          cases z) z), sh_seen .., sh_seen .., ?_⟩
        rw [PySem.SeqAt.eqv_refl _ (can_seen ..)]
        refine ⟨_, rfl, iteF ?_⟩
        exact ⟨N2, _, _, _, ks2, _, _, _, _, _, _, rfl, v17.same s18, by rw [hl1, owk]⟩
    · obtain ⟨N, ow, pc, vl, ks, st, y3, y4, y5, y6, y7, rfl, v7, owk⟩ := hP
      have ow20 : ow.length ≤ 20 := by
        rw [owk]
        split <;> split <;> omega
      clear owk v5
      refine ⟨_, rfl, a, ns, 1, rfl, v7.sm.seq hS2, hl, by decide, fun z => ?_⟩
      refine ⟨_, _, rfl, rfl, (by decide : (0 : Int) < 8), rfl, _, rfl, ?_⟩
      refine' joinH (Pre := fun H3 => ∃ (N : Addr → Prop) (ow pc : List Nat) (vl : List Int) (ks : List Nat) (st : Int), I0 C CL H2 H3 o N ws ow pc vl ks st ∧ (ow.length ≤ 20 ∨ (ow.length = 63 ∧ 2 ≤ ks.length))) (fun rest => ?main2) ?rest2
      case main2 =>
        refine ite2 (fun _ => ?_) (fun _ => iteF (rest _ ⟨N, ow, pc, vl, ks, st, v7, .inl ow20⟩))
        exact ⟨_, rfl, _, rfl, N, o, ws, ow, pc, vl, ks, st, rfl, v7.row, v7.nw, by omega, w2, fun H8 N' ow' pc' vl' ks' st' r8 h63 m63 h2 k8 f8 => ⟨_, rfl, iteF (rest H8 ⟨N', ow', pc', vl', ks', st', v7.step r8 k8 f8 (h63 ▸ m63), .inr ⟨h63, h2⟩⟩)⟩⟩
      case rest2 =>
        clear v7 ow20
        clear N ow pc vl ks st
        rintro H8 ⟨N, ow, pc, vl, ks, st, v8, hcase⟩
        obtain ⟨NB, fs, rb, sb⟩ := v8.row.b
        obtain ⟨dx, e8, nl⟩ := rb.ins
        have few := v8.row.fit.few
        refine ⟨_, rfl, o, dx, fs, rfl, e8, nl _ (by decide), _, rfl, o, dx, fs, rfl, e8, nl _ (by decide), NB, o, ws.length, ow, pc, ks, st, fs, rfl, rb, _, _, rfl, rfl, ?_⟩
        refine ⟨(by show 2 ≤ sizeLine; decide), fun t1 ht1 => ?_⟩
        generalize hg : upd H8 t1 (HO.tup _) = H9
        have s9 : Same H8 H9 := hg ▸ same_new ht1
        have et1 : H9 t1 = some (.tup [V.int 0, V.int 5]) := by
          rw [← hg]
          exact upd_same
        clear hg
        refine ⟨(by show 2 ≤ sizeLine; decide), fun t2 ht2 => ?_⟩
        generalize hg : upd H9 t2 (HO.tup _) = H10
        have s10 : Same H9 H10 := hg ▸ same_new ht2
        have et2 : H10 t2 = some (.tup [V.int 1, V.int 5]) := by
          rw [← hg]
          exact upd_same
        clear hg
        refine ⟨(by show 2 ≤ sizeLine; decide), fun l0 hl0 => ?_⟩
        generalize hg : upd H10 l0 (HO.lst _) = H11
        have s11 : Same H10 H11 := hg ▸ same_new hl0
        have el0 : H11 l0 = some (.lst [.ref t1, .ref t2]) := by
          rw [← hg]
          exact upd_same
        clear hg
        have s811 := s9.trans (s10.trans s11)
        have v11 := v8.same s811
        obtain ⟨NBa, fsa, rba, sba⟩ := v11.row.b
        obtain ⟨dxa, e11, nla⟩ := rba.ins
        refine ⟨_, rfl, o, dxa, fsa, rfl, e11, nla _ (by decide), NBa, o, ws.length, ow, pc, ks, st, fsa, rfl, rba, _, _, rfl, rfl, _, rfl, l0, _, rfl, SqL.of el0, fun p hp => ?_⟩
        rw [show (64 : Int) - ((ow.length + 1 : Nat) : Int) = ((63 - ow.length : Nat) : Int) by omega, cut_k]
        obtain ⟨cs, hcx, hok, hcl, hroom, htwo⟩ : ∃ cs : List (Nat × Int), ChX H11 (([.ref t1, .ref t2] : List V).take (63 - ow.length)) cs ∧ ChOk cs ws.length ∧ cs.length ≤ 2 ∧ ow.length + 1 + cs.length ≤ 64 ∧ 2 ≤ ks.length + cs.length := by
          rcases hcase with h | ⟨h, h2⟩
          · rw [List.take_of_length_le (by show 2 ≤ 63 - ow.length; omega)]
            refine ⟨[(0, 5), (1, 5)], ⟨rfl, fun j c hj => ?_⟩, fun c hc => ?_, Nat.le_refl _, by show ow.length + 1 + 2 ≤ 64; omega, by show 2 ≤ ks.length + 2; omega⟩
            · match j, hj with
              | 0, hj => cases hj; exact ⟨t1, rfl, s11 _ _ (s10 _ _ et1)⟩
              | 1, hj => cases hj; exact ⟨t2, rfl, s11 _ _ et2⟩
            · rcases List.mem_cons.mp hc with rfl | hc
              · exact ⟨by show 0 < ws.length; omega, by decide, by decide⟩
              · rw [List.mem_singleton.mp hc]
                exact ⟨by show 1 < ws.length; omega, by decide, by decide⟩
          · rw [h]
            exact ⟨[], ⟨rfl, (fun j c hj => by cases hj)⟩, (fun c hc => by cases hc), by decide, by show 63 + 1 + 0 ≤ 64; decide, by show 2 ≤ ks.length + 0; omega⟩
        obtain ⟨xs, hxs⟩ : ∃ xs, xs = ([.ref t1, .ref t2] : List V).take (63 - ow.length) := ⟨_, rfl⟩
        have hxm : ∀ (k : Nat) (t : Addr), xs[k]? = some (.ref t) → ¬ N t := fun k t ht hN => by
          have hm : (V.ref t) ∈ ([.ref t1, .ref t2] : List V) := List.mem_of_mem_take (hxs ▸ List.mem_of_getElem? ht)
          rcases List.mem_cons.mp hm with e | hm
          · cases e
            exact (v8.row.laid _ hN).ne ht1
          · cases List.mem_singleton.mp hm
            exact (v8.row.laid _ hN).ne (none_of' s9 ht2)
        rw [← hxs] at hcx
        rw [← hxs]
        have s12 := same_new (o := .lst xs) hp
        have ep : (upd H11 p (.lst xs)) p = some (.lst xs) := upd_same
        have nNp : ¬ N p := fun h => (v11.row.laid p h).ne hp
        generalize upd H11 p (.lst xs) = H12 at *
        have v12 := v11.same s12
        have hcx12 := hcx.kp (KT.of s12)
        refine ⟨N, o, p, ws, ow, pc, vl, ks, st, xs, cs, ?_, v12.row, v12.nw, v12.kr.2.2, ep, hcx12, hok, by omega, hroom, nNp, hxm, fun a3 H13 N' ha3 ea3 r13 k13 f13 na3 => ?_⟩
        · show [V.ref o, V.int (((ow.length + 1 : Nat) : Int) - 1), V.ref p] = _
          rw [show V.int (((ow.length + 1 : Nat) : Int) - 1) = num ow.length from by show V.int _ = V.int _; congr 1; omega]
        have hl2 : (ow ++ os ow.length ow.length cs.length).length = ow.length + cs.length := by rw [List.length_append, os_len]
        have v13 := v12.step r13 k13 f13 (by
          rw [hl2]
          by_cases hz : cs.length = 0
          · rw [hz]
            exact List.mem_append.mpr (.inl v12.nw)
          · exact List.mem_append.mpr (.inr (List.mem_map.mpr ⟨cs.length - 1, List.mem_range.mpr (by omega), by omega⟩)))
        have k2 : 2 ≤ (ks ++ nums ow.length cs.length).length := by rw [List.length_append, nums_len]; exact htwo
        clear r13 k13 f13 na3 ea3 ha3 v12 hcx12 hxm hxs hcx hok hroom htwo nNp ep s12 hp v11 e11 nla rba sba e8 nl rb sb hl2 hcase few
        generalize ow ++ os ow.length ow.length cs.length = ow2 at *
        generalize pc ++ cs.map Prod.fst = pc2 at *
        generalize vl ++ cs.map Prod.snd = vl2 at *
        generalize ks ++ nums ow.length cs.length = ks2 at *
        generalize st + ((cs.length : Nat) : Int) = st2 at *
        obtain ⟨NBb, fsb, rbb, sbb⟩ := v13.row.b
        obtain ⟨dxb, e13, nlb⟩ := rbb.ins
        refine ⟨_, rfl, o, dxb, fsb, rfl, e13, nlb _ (by decide), NBb, o, ws.length, ow2, pc2, ks2, st2, fsb, rfl, rbb, _, _, rfl, rfl, ?_⟩
        have hnew : (fun (i j : Int) => V.int (i - j)) ((ow2.length + 1 : Nat) : Int) 1 = num ow2.length := by
          show V.int _ = V.int _
          congr 1
          omega
        rw [hnew]
        refine ⟨_, rfl, o, dxb, fsb, rfl, e13, nlb _ (by decide), NBb, o, ws.length, ow2, pc2, ks2, st2, fsb, rfl, rbb, fun ka H14 hka eka s14 => ⟨.ref ka, _, rfl, .inl ⟨_, SqL.of eka, rfl⟩, rfl, _, rfl, ite2 (fun _ => q _) (fun _ => ?_)⟩⟩
        have v14 := v13.same s14
        obtain ⟨dxc, fsc, e14, nlc⟩ := v14.row.ins
        have few := v14.row.fit.few
        refine ⟨_, rfl, o, dxc, fsc, rfl, e14, nlc _ (by decide), _, rfl, N', o, ws, ow2, pc2, vl2, ks2, st2, ow2.length, rfl, v14.row, Nat.le_refl _, v14.nw, k2, v14.kr.2.2, fun a5 H15 xs5 N5 ha5 ea5 px5 r15 na5 k15 f15 => ?_⟩
        have nd2 : ks2.Nodup := v14.kr.1.imp fun h => Nat.ne_of_lt h
        have hnin : ow2.length ∉ ks2.erase ow2.length := nd2.not_mem_erase
        have hl3 : (ks2.erase ow2.length).length = ks2.length - 1 := List.length_erase_of_mem v14.nw
        obtain ⟨ks3, hks3⟩ : ∃ ks3, ks3 = ks2.erase ow2.length := ⟨_, rfl⟩
        rw [← hks3] at r15 hnin hl3
        obtain ⟨ks', i, hki⟩ : ∃ ks' i, ks3 = ks' ++ [i] := ⟨ks3.dropLast, ks3.getLast (fun e => by rw [e] at hl3; have : 0 = ks2.length - 1 := hl3; omega), (List.dropLast_concat_getLast _).symm⟩
        have hik : i ∈ ks3 := by
          rw [hki]
          simp
        have hin : i ≠ ow2.length := fun e => hnin (e ▸ hik)
        obtain ⟨NBd, fsd, rbd, sbd⟩ := r15.b
        obtain ⟨dxd, e15, nld⟩ := rbd.ins
        have hil := rbd.kl i hik
        refine ⟨_, rfl, o, dxd, fsd, rfl, e15, nld _ (by decide), NBd, o, ws.length, ow2, pc2, ks3, st2, fsd, rfl, rbd, fun kb H16 hkb ekb s16 => ?_⟩
        refine ⟨1, rfl, kb, _, _, num i, rfl, rfl, SqL.of ekb, by rw [hki, List.map_append]; exact atI_last _ _, ?_⟩
        have rb16 := rbd.same s16
        refine ⟨_, rfl, _, rfl, (by show 3 ≤ sizeLine; decide), fun x1 hx1 => ?_⟩
        generalize hg : upd H16 x1 (HO.tup _) = H17
        have s17 : Same H16 H17 := hg ▸ same_new hx1
        have ex1 : H17 x1 = some (.tup [num ow2.length, V.int 0, V.int 1]) := by
          rw [← hg]
          exact upd_same
        clear hg
        have rb17 := rb16.same s17
        refine ⟨NBd, o, x1, ws.length, ow2, pc2, ks3, st2, fsd, _, rfl, rb17, ex1, .inl ⟨CN, _, _, .inl (.inl ⟨num ow2.length, V.int 0, V.int 1, .int ((ow2.length : Nat) : Int), rfl, fun H' _ => .dp (.int _), .inr ⟨ow2.length, rfl, Nat.le_refl _, hnin⟩, rfl, rfl, rfl⟩), fun l H18 hl el s18 => ?_⟩⟩
        refine ⟨_, rfl, (by show 2 ≤ sizeLine; decide), fun l2 hl2' => ?_⟩
        generalize hg : upd H18 l2 (HO.lst _) = H19
        have s19 : Same H18 H19 := hg ▸ same_new hl2'
        have el2 : H19 l2 = some (.lst [.str "make", num ow2.length]) := by
          rw [← hg]
          exact upd_same
        clear hg
        have shp : ∀ (wd : Str) (k : Nat), PyData.strOk wd = true → PyData.canLay0 (.list [.str wd, .int ((k : Nat) : Int)]) = true ∧ SeqAt.shaped (.list [.str wd, .int ((k : Nat) : Int)]) = true := fun wd k hw => by
          refine ⟨by simp [PyData.canLay0, PyData.canLayAll0, hw], ?_⟩
          unfold SeqAt.shaped
          simp [PyData.canLay0, PyData.canLayAll0, PyData.depth, PyData.depthAll, hw]
        refine ⟨.list [.str "make", .int (ow2.length : Nat)], .list [.str "make", .int (ow2.length : Nat)], .lst (SqL.of (s19 _ _ el)) (.cons (.str _) (.cons (.int _) .nil)), .lst (SqL.of el2) (.cons (.str _) (.cons (.int _) .nil)), (shp _ _ okS4).2, (shp _ _ okS4).2, ?_⟩
        rw [PySem.SeqAt.eqv_refl _ (shp _ _ okS4).1]
        refine ⟨_, rfl, iteT ?_⟩
        have rb19 := (rb17.same s18).same s19
        refine ⟨_, rfl, _, rfl, (by show 3 ≤ sizeLine; decide), fun x2 hx2 => ?_⟩
        generalize hg : upd H19 x2 (HO.tup _) = H20
        have s20 : Same H19 H20 := hg ▸ same_new hx2
        have ex2 : H20 x2 = some (.tup [num i, V.int 0, V.int 1]) := by
          rw [← hg]
          exact upd_same
        clear hg
        refine ⟨NBd, o, x2, ws.length, ow2, pc2, ks3, st2, fsd, _, rfl, rb19.same s20, ex2, .inl ⟨CA, _, _, .inl (.inr (.inr (.inr (.inl ⟨i, 0, 1, rfl, hil, hik, by omega, by decide, by decide, hin, rfl, rfl, rfl⟩)))), fun l3 H21 hl3' el3 s21 => ?_⟩⟩
        refine ⟨_, rfl, (by show 2 ≤ sizeLine; decide), fun l4 hl4 => ?_⟩
        generalize hg : upd H21 l4 (HO.lst _) = H22
        have s22 : Same H21 H22 := hg ▸ same_new hl4
        have el4 : H22 l4 = some (.lst [.str "elder", num i]) := by
          rw [← hg]
          exact upd_same
        clear hg
        refine ⟨.list [.str "elder", .int (i : Nat)], .list [.str "elder", .int (i : Nat)], .lst (SqL.of (s22 _ _ el3)) (.cons (.str _) (.cons (.int _) .nil)), .lst (SqL.of el4) (.cons (.str _) (.cons (.int _) .nil)), (shp _ _ okS1).2, (shp _ _ okS1).2, ?_⟩
        rw [PySem.SeqAt.eqv_refl _ (shp _ _ okS1).1]
        exact q _
end
end K41
/-! The head by one run of the top in the kernel: what the end needs of the heap is looked at there, nothing is written out. -/
namespace Gh
open PySem PySem.Spec PyProof.Rows L2
/-- what the looks o tell of the objects at as -/
def hook {α : Type} (as : List Addr) (o : PySem.W.Frag → α) (v : α) : PySem.W.Hook where
  α := α
  obs := fun s => o (He.frG s.heap.get? as)
  val := fun _ => v
  says := fun _ h => ∃ K : PySem.W.Frag, K.In h ∧ o K = v
  of := fun _ _ e => ⟨_, He.frG_in, e⟩
  keeps := fun _ _ _ ⟨K, hK, c⟩ k => ⟨K, PySem.W.Frag.In.keeps hK k, c⟩
def ob {α : Type} (as : List Addr) (o : PySem.W.Frag → α) (s : PySem.W.SharedT) : α := o (He.frG (HandSHeadRun.getT s) as)
theorem ob_eq {α : Type} (as : List Addr) (o : PySem.W.Frag → α) (v : α) (s : PySem.W.SharedT) : ob as o s = (hook as o v).obs s.abs := by
  have e : HandSHeadRun.getT s = s.abs.heap.get? := funext (HandSHeadRun.getT_eq s)
  unfold ob
  rw [e]
  rfl
/-- a def as it lies there -/
abbrev FnW : Type := Option (Str × Str × Arguments × FuncBody × Scope × Addr × List Str × Addr)
def fW (K : PySem.W.Frag) (a : Addr) : FnW := match K.lookup a with
  | some ⟨.type c, _, .func fd, _⟩ => (match decide (c = "function") with
    | true => (match fd.defaults with
      | .none => some (fd.name, fd.qualname, fd.params, fd.body, fd.scope, fd.globals, fd.closure.map (·.1), fd.builtins)
      | _ => none)
    | false => none)
  | _ => none
def fV (n q : Str) (st : Stmt) (cl : List Str) : FnW := some (n, q, defArgs st, .stmts (defBody st), defScope st, mainGlobals, cl, builtinsNs)
def cdOf (K : PySem.W.Frag) (a : Addr) : Value := match K.lookup a with
  | some ⟨_, _, .func fd, _⟩ => fd.code
  | _ => .none
theorem fun_of {K : PySem.W.Frag} {a : Addr} {n q : Str} {st : Stmt} (e : fW K a = fV n q st []) (c : PySem.W.codeIn K (cdOf K a) q = true) :
    ∃ (od an : Option Addr) (kV dc pm cd ct : Value) (sl : Array (Option Value)), K.lookup a = some ⟨.type "function", od, .func (PySem.W.fnOf n q (defArgs st) (defBody st) (defScope st) .none kV dc pm an cd ct), sl⟩ ∧ PySem.W.codeIn K cd q = true := by
  unfold fW fV at e
  unfold cdOf at c
  cases h : K.lookup a with
  | none => rw [h] at e; cases e
  | some o =>
    obtain ⟨oc, od, dt, sl⟩ := o
    rw [h] at e c
    cases oc with
    | type t =>
      cases dt with
      | func fd =>
        obtain ⟨n1, n2, n3, n4, n5, n6, n7, n8, n9, n10, n11, n12, n13, n14, n15⟩ := fd
        dsimp only at e c
        by_cases ht : t = "function"
        · rw [decide_eq_true ht] at e
          dsimp only at e
          cases n8 with
          | none =>
            dsimp only at e
            simp only [Option.some.injEq, Prod.mk.injEq, List.map_eq_nil_iff] at e
            obtain ⟨h1, h2, h3, h4, h5, h6, h7, h8⟩ := e
            subst ht h1 h2 h3 h4 h5 h6 h7 h8
            exact ⟨od, n12, n9, n10, n11, n13, n14, sl, rfl, c⟩
          | _ => cases e
        · rw [decide_eq_false ht] at e
          cases e
      | _ => cases e
    | _ => cases e
/-- a class lies there -/
def clsB (K : PySem.W.Frag) (C : Addr) : Bool := match K.lookup C with
  | some ⟨_, _, .cls _, _⟩ => true
  | _ => false
theorem cls_of {K : PySem.W.Frag} {C : Addr} (e : clsB K C = true) : ∃ (xc : Value) (xd : Option Addr) (ic : PySem.ClassData) (xs : Array (Option Value)), K.lookup C = some ⟨xc, xd, .cls ic, xs⟩ := by
  unfold clsB at e
  cases h : K.lookup C with
  | none => rw [h] at e; cases e
  | some o =>
    obtain ⟨oc, od, dt, sl⟩ := o
    rw [h] at e
    cases dt with
    | cls ic => exact ⟨oc, od, ic, sl, rfl⟩
    | _ => cases e
/-- a method that begins with super() -/
def supB (K : PySem.W.Frag) (f C : Addr) (file q : Str) : Bool := match K.lookup f with
  | some ⟨_, _, .func fd, _⟩ => (match fd.kwdefaults, fd.closure, fd.code with
    | .none, [(x, cc)], .ref co => PySem.W.codeIn K (.ref co) q && ((match K.lookup co with
      | some ⟨_, _, .fields vs, _⟩ => (match vs[2]? with
        | some (PySem.Value.str g _) => file == g
        | _ => false)
      | _ => false) && (match K.lookup cc with
      | some ⟨_, _, .cell (some (PySem.Value.ref D)), _⟩ => decide (D = C)
      | _ => false))
    | _, _, _ => false)
  | _ => false
theorem sup_of {K : PySem.W.Frag} {f C : Addr} {n q file : Str} {st : Stmt} (e : fW K f = fV n q st ["__class__"]) (c : supB K f C file q = true) :
    ∃ (od an : Option Addr) (dc pm ct : Value) (sl : Array (Option Value)) (co cc : Addr) (ccl cv : Value) (cdd cld : Option Addr) (vs : Array Value) (ccs csl : Array (Option Value)) (g : Str) (tf : Tok),
      K.lookup f = some ⟨.type "function", od, .func (PySem.W.ksFn n q (defArgs st) (defBody st) (defScope st) .none .none dc pm an (.ref co) ct cc), sl⟩ ∧ PySem.W.codeIn K (.ref co) q = true ∧
      K.lookup co = some ⟨ccl, cdd, .fields vs, ccs⟩ ∧ vs[2]? = some (.str g tf) ∧ (file == g) = true ∧ K.lookup cc = some ⟨cv, cld, .cell (some (.ref C)), csl⟩ := by
  unfold fW fV at e
  unfold supB at c
  cases h : K.lookup f with
  | none => rw [h] at e; cases e
  | some o =>
    obtain ⟨oc, od, dt, sl⟩ := o
    rw [h] at e c
    cases oc with
    | type t =>
      cases dt with
      | func fd =>
        obtain ⟨n1, n2, n3, n4, n5, n6, n7, n8, n9, n10, n11, n12, n13, n14, n15⟩ := fd
        dsimp only at e c
        by_cases ht : t = "function"
        · rw [decide_eq_true ht] at e
          dsimp only at e
          cases n8 with
          | none =>
            dsimp only at e
            simp only [Option.some.injEq, Prod.mk.injEq] at e
            obtain ⟨h1, h2, h3, h4, h5, h6, h7, h8⟩ := e
            cases n9 with
            | none =>
              match n7, h7, c with
              | [(x, cc)], h7, c =>
                simp only [List.map_cons, List.map_nil, List.cons.injEq, and_true] at h7
                cases n13 with
                | ref co =>
                  dsimp only at c
                  obtain ⟨c1, c2⟩ := He.ba c
                  obtain ⟨c3, c4⟩ := He.ba c2
                  cases k1 : K.lookup co with
                  | none => rw [k1] at c3; cases c3
                  | some o1 =>
                    obtain ⟨p1, p2, p3, p4⟩ := o1
                    rw [k1] at c3
                    cases p3 with
                    | fields vs =>
                      dsimp only at c3
                      cases k2 : vs[2]? with
                      | none => rw [k2] at c3; cases c3
                      | some v2 =>
                        rw [k2] at c3
                        cases v2 with
                        | str g tf =>
                          cases k3 : K.lookup cc with
                          | none => rw [k3] at c4; cases c4
                          | some o3 =>
                            obtain ⟨r1, r2, r3, r4⟩ := o3
                            rw [k3] at c4
                            cases r3 with
                            | cell v =>
                              cases v with
                              | none => cases c4
                              | some v =>
                                cases v with
                                | ref D =>
                                  have hD : D = C := of_decide_eq_true c4
                                  subst ht h1 h2 h3 h4 h5 h6 h7 h8 hD
                                  exact ⟨od, n12, n10, n11, n14, sl, co, cc, p1, r1, p2, r2, vs, p4, r4, g, tf, rfl, c1, k1, k2, c3, k3⟩
                                | _ => cases c4
                            | _ => cases c4
                        | _ => cases c3
                    | _ => cases c3
                | _ => cases c
              | [], _, c => cases c
              | _ :: _ :: _, _, c => cases c
            | _ => cases c
          | _ => cases e
        · rw [decide_eq_false ht] at e
          cases e
      | _ => cases e
    | _ => cases e
/-- an own error class straight under CE -/
def excB (K : PySem.W.Frag) (C CE : Addr) : Bool := match K.lookup C with
  | some ⟨.type t, _, .cls cd, sl⟩ => decide (t = "type") && (decide (cd.mro = [.ref C, .ref CE, .type "ValueError", .type "Exception", .type "BaseException", .type "object"]) && (cd.hasDict && (!cd.hasDel && (match sl.toList with
    | [_, _, _, _, some (.builtin b), _] => decide (b = "ValueError.__new__")
    | _ => false))))
  | _ => false
theorem exc_of {K : PySem.W.Frag} {C CE : Addr} (e : excB K C CE = true) : ∃ (nm q : Str) (N : Addr) (bs : List Value) (sn : List Str) (sub : List Value) (ab : Bool) (col : Option Bool) (dd : Option Addr) (m0 m1 m2 m3 m5 : Option Value),
    K.lookup C = some (excClassObj nm q C N bs [.ref CE, .type "ValueError", .type "Exception", .type "BaseException", .type "object"] true sn sub ab col dd m0 m1 m2 m3 m5 "ValueError.__new__") := by
  unfold excB at e
  cases h : K.lookup C with
  | none => rw [h] at e; cases e
  | some o =>
    obtain ⟨oc, od, dt, sl⟩ := o
    rw [h] at e
    cases oc with
    | type t =>
      cases dt with
      | cls cd =>
        obtain ⟨d1, d2, d3, d4, d5, d6, d7, d8, d9, d10, d11⟩ := cd
        dsimp only at e
        obtain ⟨e1, e2⟩ := He.ba e
        obtain ⟨e3, e4⟩ := He.ba e2
        obtain ⟨e5, e6⟩ := He.ba e4
        obtain ⟨e7, e8⟩ := He.ba e6
        have h1 : t = "type" := of_decide_eq_true e1
        have h2 := of_decide_eq_true e3
        subst h1
        subst h2
        have h5 : d6 = true := e5
        subst h5
        have h7 : d11 = false := by cases d11 with | false => rfl | true => cases e7
        subst h7
        obtain ⟨sl⟩ := sl
        dsimp only at e8
        match sl, e8 with
        | [s0, s1, s2, s3, some (.builtin b), s5], e8 =>
          have hb : b = "ValueError.__new__" := of_decide_eq_true e8
          subst hb
          exact ⟨d1, d5, d4, d2, d7, d8, d9, d10, od, s0, s1, s2, s3, s5, rfl⟩
      | _ => cases e
    | _ => cases e
/-- a whole number among the names -/
def tkOf (K : PySem.W.Frag) (x : Str) : Tok := match PySem.W.nsIn K mainGlobals x with
  | some (some (.int _ t)) => t
  | _ => default
theorem test {l : List Bool} (h : l.all id = true) (i : Nat) {b : Bool} (e : l[i]? = some b) : b = true := List.all_eq_true.mp h b (List.mem_of_getElem? e)
theorem at_ {α : Type} {l m : List α} (h : l = m) (i : Nat) {a b : α} (e : l[i]? = some a) (e2 : m[i]? = some b) : a = b := by
  rw [h, e2] at e
  exact (Option.some.inj e).symm
theorem fn_at {l m : List FnW} (h : l = m) (i : Nat) {a b : FnW} (e : l[i]? = some a) (e2 : m[i]? = some b) : a = b := by
  rw [h, e2] at e
  exact (Option.some.inj e).symm
/-- the end over a head that looks -/
theorem walkGE {l : PySem.W.OpenLaw} {n k : Nat} {q : Program} {loose : List Str} {XP : (Str → Option Value) → Heap → Prop}
    {YP : World → Heap → Prop} {d : DefRec} {x : Str}
    (most : l.most = some n) (line : n ≤ sizeLine) (nod : d.params.defaults = []) (room : Room k callerA)
    (F : ∀ (w : World) (mg : Str → Option Value) (fa : Addr) (h : Heap), YP w h → h.Ns mainGlobals mg → mg d.name = some (.ref fa) →
      ∃ (K : PySem.W.Frag) (fd : FuncData) (sp : Sp), K.In h ∧ (∀ (s : Shared) (u : Value), BindsTo s fd ⟨[u], []⟩ [(x, u)]) ∧
        (∀ (H : Hp) (a : Addr) (ns : List Int), ns.length ≤ n → Only H → SqL K H a (ns.map V.int) → sp [.ref a] H (fun v _ => v = .bl true) fun _ _ _ => False) ∧
        ∀ base : Heap, K.In base → base.Ns mainGlobals mg → Gd.FnG l.prog w K mg base CX0 k fa fd [x] sp) :
    PySem.W.WalkO q loose XP YP l.row.toRowW d [] (fun f vs => PySem.call f vs) := by
  apply Att.attach_call most nod
  intro w s₀ s₁ mg mb fa o pm cd doc a vs ns G Y ho hd hcd hmg hobj hints hlen hg
  obtain ⟨K, fd, sp, kx, hb, hsp, hF⟩ := F w mg fa _ Y G.T.g hmg
  refine Gd.callG kx G.T.g G.T.b G.T.builtins G.T.nolimit hg hobj hints (Nat.le_trans hlen line) room hF hb ?_ ?_
  · intro H hO hS
    exact hsp H a ns hlen hO hS
  · intro H e s' h
    exact h
end Gh
set_option maxHeartbeats 0
namespace K41
open PySem PySem.Spec PyProof.Rows L2 Gd Gs Ge
open C8 (clsBody Met)
theorem keep_fn {K : PySem.W.Frag} {f : Addr} {oc : Value} {od : Option Addr} {fd : FuncData} {sl : Array (Option Value)} (e : K.lookup f = some ⟨oc, od, .func fd, sl⟩) : PySem.W.keepIn K (.ref f) = true := by
  unfold PySem.W.keepIn
  simp only [e]
theorem type_fn {K : PySem.W.Frag} {f : Addr} {oc : Value} {od : Option Addr} {d : Data} {sl : Array (Option Value)} (e : K.lookup f = some ⟨oc, od, d, sl⟩) : PySem.W.typeIn K (.ref f) = some oc := by
  show (K.lookup f).map (·.cls) = some oc
  rw [e]
  rfl
theorem isFn_fn {K : PySem.W.Frag} {f : Addr} {od : Option Addr} {d : Data} {sl : Array (Option Value)} (e : K.lookup f = some ⟨.type "function", od, d, sl⟩) : PySem.W.isFn K (.ref f) = true := by
  unfold PySem.W.isFn
  rw [type_fn e]
  simp
theorem fnIn_fn {K : PySem.W.Frag} {f : Addr} {oc : Value} {od : Option Addr} {fd : FuncData} {sl : Array (Option Value)} (e : K.lookup f = some ⟨oc, od, .func fd, sl⟩) : PySem.W.fnIn K f = true := by
  unfold PySem.W.fnIn
  simp only [e]
theorem exm_above {K : PySem.W.Frag} {S M : Addr} (up : PySem.W.subIn K (.ref S) (.ref M) = some true) (isC : PySem.W.isClsIn K M = true) (meta_ : PySem.W.typeIn K (.ref M) = some (.type "type"))
    (exc : PySem.W.subIn K (.ref M) (.type "BaseException") = some true) : PySem.W.exmOne K (.ref S) (.ref M) = some true := by
  unfold PySem.W.isClsIn at isC
  simp [PySem.W.exmOne, PySem.W.kitCls, exc, meta_, isC, up]
theorem kit_self {K : PySem.W.Frag} {S : Addr} : PySem.W.kitOne K (.ref S) (.ref S) = some true := by
  simp [PySem.W.kitOne]
theorem all_mk {l : PySem.W.OpenLaw} {w : World} {K : PySem.W.Frag} {h : Heap} {mg : Str → Option Value} {fa : Addr} (X : K.In h) (G : h.Ns mainGlobals mg) (hfa : mg "law" = some (.ref fa))
    {f0 : Addr}
    {od0 an0 : Option Addr}
    {sl0 : Array (Option Value)}
    {kV0 dc0 pm0 cd0 ct0 : Value}
    {f1 : Addr}
    {od1 an1 : Option Addr}
    {sl1 : Array (Option Value)}
    {kV1 dc1 pm1 cd1 ct1 : Value}
    {f2 : Addr}
    {od2 an2 : Option Addr}
    {sl2 : Array (Option Value)}
    {kV2 dc2 pm2 cd2 ct2 : Value}
    {f3 : Addr}
    {od3 an3 : Option Addr}
    {sl3 : Array (Option Value)}
    {kV3 dc3 pm3 cd3 ct3 : Value}
    {f4 : Addr}
    {od4 an4 : Option Addr}
    {sl4 : Array (Option Value)}
    {kV4 dc4 pm4 cd4 ct4 : Value}
    {f5 : Addr}
    {od5 an5 : Option Addr}
    {sl5 : Array (Option Value)}
    {kV5 dc5 pm5 cd5 ct5 : Value}
    {f6 : Addr}
    {od6 an6 : Option Addr}
    {sl6 : Array (Option Value)}
    {kV6 dc6 pm6 cd6 ct6 : Value}
    {f7 : Addr}
    {od7 an7 : Option Addr}
    {sl7 : Array (Option Value)}
    {kV7 dc7 pm7 cd7 ct7 : Value}
    {f8 : Addr}
    {od8 an8 : Option Addr}
    {sl8 : Array (Option Value)}
    {kV8 dc8 pm8 cd8 ct8 : Value}
    {f9 : Addr}
    {od9 an9 : Option Addr}
    {sl9 : Array (Option Value)}
    {kV9 dc9 pm9 cd9 ct9 : Value}
    {f10 : Addr}
    {od10 an10 : Option Addr}
    {sl10 : Array (Option Value)}
    {kV10 dc10 pm10 cd10 ct10 : Value}
    {f11 : Addr}
    {od11 an11 : Option Addr}
    {sl11 : Array (Option Value)}
    {kV11 dc11 pm11 cd11 ct11 : Value}
    {f12 : Addr}
    {od12 an12 : Option Addr}
    {sl12 : Array (Option Value)}
    {kV12 dc12 pm12 cd12 ct12 : Value}
    {f13 : Addr}
    {od13 an13 : Option Addr}
    {sl13 : Array (Option Value)}
    {kV13 dc13 pm13 cd13 ct13 : Value}
    {f14 : Addr}
    {od14 an14 : Option Addr}
    {sl14 : Array (Option Value)}
    {kV14 dc14 pm14 cd14 ct14 : Value}
    {f15 : Addr}
    {od15 an15 : Option Addr}
    {sl15 : Array (Option Value)}
    {kV15 dc15 pm15 cd15 ct15 : Value}
    {f16 : Addr}
    {od16 an16 : Option Addr}
    {sl16 : Array (Option Value)}
    {kV16 dc16 pm16 cd16 ct16 : Value}
    {f17 : Addr}
    {od17 an17 : Option Addr}
    {sl17 : Array (Option Value)}
    {kV17 dc17 pm17 cd17 ct17 : Value}
    {f18 : Addr}
    {od18 an18 : Option Addr}
    {sl18 : Array (Option Value)}
    {kV18 dc18 pm18 cd18 ct18 : Value}
    {t_MOST_MAKES : Tok}
    {t_MOST_CHANGES : Tok}
    {t_MOST_PLACES : Tok}
    {t_MOST_WORTH : Tok}
    {CM : Addr}
    {CL : Addr}
    {f_CM_many : Addr}
    {od_CM_many an_CM_many : Option Addr}
    {sl_CM_many : Array (Option Value)}
    {kV_CM_many dc_CM_many pm_CM_many cd_CM_many ct_CM_many : Value}
    {f_CM_need_make : Addr}
    {od_CM_need_make an_CM_need_make : Option Addr}
    {sl_CM_need_make : Array (Option Value)}
    {kV_CM_need_make dc_CM_need_make pm_CM_need_make cd_CM_need_make ct_CM_need_make : Value}
    {f_CM_own : Addr}
    {od_CM_own an_CM_own : Option Addr}
    {sl_CM_own : Array (Option Value)}
    {kV_CM_own dc_CM_own pm_CM_own cd_CM_own ct_CM_own : Value}
    {f_CM_line : Addr}
    {od_CM_line an_CM_line : Option Addr}
    {sl_CM_line : Array (Option Value)}
    {kV_CM_line dc_CM_line pm_CM_line cd_CM_line ct_CM_line : Value}
    {f_CM_grow : Addr}
    {od_CM_grow an_CM_grow : Option Addr}
    {sl_CM_grow : Array (Option Value)}
    {kV_CM_grow dc_CM_grow pm_CM_grow cd_CM_grow ct_CM_grow : Value}
    {f_CM_init : Addr}
    {od_CM_init an_CM_init : Option Addr}
    {sl_CM_init : Array (Option Value)}
    {kV_CM_init dc_CM_init pm_CM_init cd_CM_init ct_CM_init : Value}
    {f_CL_leaps_through : Addr}
    {od_CL_leaps_through an_CL_leaps_through : Option Addr}
    {sl_CL_leaps_through : Array (Option Value)}
    {kV_CL_leaps_through dc_CL_leaps_through pm_CL_leaps_through cd_CL_leaps_through ct_CL_leaps_through : Value}
    {ic_CL : PySem.ClassData}
    {xc_CL : Value}
    {xd_CL : Option Addr}
    {xs_CL : Array (Option Value)}
    {f_CL_grow cc_CL_grow co_CL_grow : Addr}
    {od_CL_grow an_CL_grow cdd_CL_grow cld_CL_grow : Option Addr}
    {dc_CL_grow pm_CL_grow ct_CL_grow ccl_CL_grow cv_CL_grow : Value}
    {sl_CL_grow ccs_CL_grow csl_CL_grow : Array (Option Value)}
    {vs_CL_grow : Array Value}
    {tf_CL_grow : Tok}
    {file_CL_grow : Str}
    {f_CL_init cc_CL_init co_CL_init : Addr}
    {od_CL_init an_CL_init cdd_CL_init cld_CL_init : Option Addr}
    {dc_CL_init pm_CL_init ct_CL_init ccl_CL_init cv_CL_init : Value}
    {sl_CL_init ccs_CL_init csl_CL_init : Array (Option Value)}
    {vs_CL_init : Array Value}
    {tf_CL_init : Tok}
    {file_CL_init : Str}
    {C : Addr}
    {f_C_init : Addr}
    {od_C_init an_C_init : Option Addr}
    {sl_C_init : Array (Option Value)}
    {kV_C_init dc_C_init pm_C_init cd_C_init ct_C_init : Value}
    {f_C_size : Addr}
    {od_C_size an_C_size : Option Addr}
    {sl_C_size : Array (Option Value)}
    {kV_C_size dc_C_size pm_C_size cd_C_size ct_C_size : Value}
    {f_C_many : Addr}
    {od_C_many an_C_many : Option Addr}
    {sl_C_many : Array (Option Value)}
    {kV_C_many dc_C_many pm_C_many cd_C_many ct_C_many : Value}
    {f_C_makes : Addr}
    {od_C_makes an_C_makes : Option Addr}
    {sl_C_makes : Array (Option Value)}
    {kV_C_makes dc_C_makes pm_C_makes cd_C_makes ct_C_makes : Value}
    {f_C_steps : Addr}
    {od_C_steps an_C_steps : Option Addr}
    {sl_C_steps : Array (Option Value)}
    {kV_C_steps dc_C_steps pm_C_steps cd_C_steps ct_C_steps : Value}
    {f_C_at : Addr}
    {od_C_at an_C_at : Option Addr}
    {sl_C_at : Array (Option Value)}
    {kV_C_at dc_C_at pm_C_at cd_C_at ct_C_at : Value}
    {f_C_row : Addr}
    {od_C_row an_C_row : Option Addr}
    {sl_C_row : Array (Option Value)}
    {kV_C_row dc_C_row pm_C_row cd_C_row ct_C_row : Value}
    {f_C_stretch : Addr}
    {od_C_stretch an_C_stretch : Option Addr}
    {sl_C_stretch : Array (Option Value)}
    {kV_C_stretch dc_C_stretch pm_C_stretch cd_C_stretch ct_C_stretch : Value}
    {f_C_writer : Addr}
    {od_C_writer an_C_writer : Option Addr}
    {sl_C_writer : Array (Option Value)}
    {kV_C_writer dc_C_writer pm_C_writer cd_C_writer ct_C_writer : Value}
    {f_C_place_of : Addr}
    {od_C_place_of an_C_place_of : Option Addr}
    {sl_C_place_of : Array (Option Value)}
    {kV_C_place_of dc_C_place_of pm_C_place_of cd_C_place_of ct_C_place_of : Value}
    {f_C_worths_in : Addr}
    {od_C_worths_in an_C_worths_in : Option Addr}
    {sl_C_worths_in : Array (Option Value)}
    {kV_C_worths_in dc_C_worths_in pm_C_worths_in cd_C_worths_in ct_C_worths_in : Value}
    {f_C_add_steps : Addr}
    {od_C_add_steps an_C_add_steps : Option Addr}
    {sl_C_add_steps : Array (Option Value)}
    {kV_C_add_steps dc_C_add_steps pm_C_add_steps cd_C_add_steps ct_C_add_steps : Value}
    {f_C_need_make : Addr}
    {od_C_need_make an_C_need_make : Option Addr}
    {sl_C_need_make : Array (Option Value)}
    {kV_C_need_make dc_C_need_make pm_C_need_make cd_C_need_make ct_C_need_make : Value}
    {f_C_need_place : Addr}
    {od_C_need_place an_C_need_place : Option Addr}
    {sl_C_need_place : Array (Option Value)}
    {kV_C_need_place dc_C_need_place pm_C_need_place cd_C_need_place ct_C_need_place : Value}
    {f_C_need_stretch : Addr}
    {od_C_need_stretch an_C_need_stretch : Option Addr}
    {sl_C_need_stretch : Array (Option Value)}
    {kV_C_need_stretch dc_C_need_stretch pm_C_need_stretch cd_C_need_stretch ct_C_need_stretch : Value}
    {f_C_row_need_there : Addr}
    {od_C_row_need_there an_C_row_need_there : Option Addr}
    {sl_C_row_need_there : Array (Option Value)}
    {kV_C_row_need_there dc_C_row_need_there pm_C_row_need_there cd_C_row_need_there ct_C_row_need_there : Value}
    {f_C_up_to_writer : Addr}
    {od_C_up_to_writer an_C_up_to_writer : Option Addr}
    {sl_C_up_to_writer : Array (Option Value)}
    {kV_C_up_to_writer dc_C_up_to_writer pm_C_up_to_writer cd_C_up_to_writer ct_C_up_to_writer : Value}
    {f_C_row_put : Addr}
    {od_C_row_put an_C_row_put : Option Addr}
    {sl_C_row_put : Array (Option Value)}
    {kV_C_row_put dc_C_row_put pm_C_row_put cd_C_row_put ct_C_row_put : Value}
    {f_C_row_need_room_for : Addr}
    {od_C_row_need_room_for an_C_row_need_room_for : Option Addr}
    {sl_C_row_need_room_for : Array (Option Value)}
    {kV_C_row_need_room_for dc_C_row_need_room_for pm_C_row_need_room_for cd_C_row_need_room_for ct_C_row_need_room_for : Value}
    {f_C_row_writers : Addr}
    {od_C_row_writers an_C_row_writers : Option Addr}
    {sl_C_row_writers : Array (Option Value)}
    {kV_C_row_writers dc_C_row_writers pm_C_row_writers cd_C_row_writers ct_C_row_writers : Value}
    {f_C_needed_no_more : Addr}
    {od_C_needed_no_more an_C_needed_no_more : Option Addr}
    {sl_C_needed_no_more : Array (Option Value)}
    {kV_C_needed_no_more dc_C_needed_no_more pm_C_needed_no_more cd_C_needed_no_more ct_C_needed_no_more : Value}
    {f_C_begin : Addr}
    {od_C_begin an_C_begin : Option Addr}
    {sl_C_begin : Array (Option Value)}
    {kV_C_begin dc_C_begin pm_C_begin cd_C_begin ct_C_begin : Value}
    {f_C_store : Addr}
    {od_C_store an_C_store : Option Addr}
    {sl_C_store : Array (Option Value)}
    {kV_C_store dc_C_store pm_C_store cd_C_store ct_C_store : Value}
    {f_C_freed : Addr}
    {od_C_freed an_C_freed : Option Addr}
    {sl_C_freed : Array (Option Value)}
    {kV_C_freed dc_C_freed pm_C_freed cd_C_freed ct_C_freed : Value}
    {f_C_looked : Addr}
    {od_C_looked an_C_looked : Option Addr}
    {sl_C_looked : Array (Option Value)}
    {kV_C_looked dc_C_looked pm_C_looked cd_C_looked ct_C_looked : Value}
    {f_C_box : Addr}
    {od_C_box an_C_box : Option Addr}
    {sl_C_box : Array (Option Value)}
    {kV_C_box dc_C_box pm_C_box cd_C_box ct_C_box : Value}
    {f_C_need_new : Addr}
    {od_C_need_new an_C_need_new : Option Addr}
    {sl_C_need_new : Array (Option Value)}
    {kV_C_need_new dc_C_need_new pm_C_need_new cd_C_need_new ct_C_need_new : Value}
    {CR : Addr}
    {f_CR_let_go : Addr}
    {od_CR_let_go an_CR_let_go : Option Addr}
    {sl_CR_let_go : Array (Option Value)}
    {kV_CR_let_go dc_CR_let_go pm_CR_let_go cd_CR_let_go ct_CR_let_go : Value}
    {f_CR_put : Addr}
    {od_CR_put an_CR_put : Option Addr}
    {sl_CR_put : Array (Option Value)}
    {kV_CR_put dc_CR_put pm_CR_put cd_CR_put ct_CR_put : Value}
    {f_CR_put_all : Addr}
    {od_CR_put_all an_CR_put_all : Option Addr}
    {sl_CR_put_all : Array (Option Value)}
    {kV_CR_put_all dc_CR_put_all pm_CR_put_all cd_CR_put_all ct_CR_put_all : Value}
    {ic_C : PySem.ClassData}
    {xc_C : Value}
    {xd_C : Option Addr}
    {xs_C : Array (Option Value)}
    {f_C_let_go cc_C_let_go co_C_let_go : Addr}
    {od_C_let_go an_C_let_go cdd_C_let_go cld_C_let_go : Option Addr}
    {dc_C_let_go pm_C_let_go ct_C_let_go ccl_C_let_go cv_C_let_go : Value}
    {sl_C_let_go ccs_C_let_go csl_C_let_go : Array (Option Value)}
    {vs_C_let_go : Array Value}
    {tf_C_let_go : Tok}
    {file_C_let_go : Str}
    {f_C_put cc_C_put co_C_put : Addr}
    {od_C_put an_C_put cdd_C_put cld_C_put : Option Addr}
    {dc_C_put pm_C_put ct_C_put ccl_C_put cv_C_put : Value}
    {sl_C_put ccs_C_put csl_C_put : Array (Option Value)}
    {vs_C_put : Array Value}
    {tf_C_put : Tok}
    {file_C_put : Str}
    {f_C_put_all cc_C_put_all co_C_put_all : Addr}
    {od_C_put_all an_C_put_all cdd_C_put_all cld_C_put_all : Option Addr}
    {dc_C_put_all pm_C_put_all ct_C_put_all ccl_C_put_all cv_C_put_all : Value}
    {sl_C_put_all ccs_C_put_all csl_C_put_all : Array (Option Value)}
    {vs_C_put_all : Array Value}
    {tf_C_put_all : Tok}
    {file_C_put_all : Str}
    {CE : Addr}
    {nmA qA fileA : Str} {CA fA NA cdaA ccA : Addr} {bsA subA : List Value} {snA : List Str} {abA : Bool} {colA : Option Bool} {ddA odA anA cddA cldA : Option Addr} {m0A m1A m2A m3A m5A : Option Value} {dcA pmA ctA cclA clA : Value} {slA ccsA cslA : Array (Option Value)} {vsA : Array Value} {tfA : Tok} {kdA : Nat} {r1A r2A p1A p2A p3A p4A p5A p6A q1A q2A q3A q4A : Pos}
    {nmN qN fileN : Str} {CN fN NN cdaN ccN : Addr} {bsN subN : List Value} {snN : List Str} {abN : Bool} {colN : Option Bool} {ddN odN anN cddN cldN : Option Addr} {m0N m1N m2N m3N m5N : Option Value} {dcN pmN ctN cclN clN : Value} {slN ccsN cslN : Array (Option Value)} {vsN : Array Value} {tfN : Tok} {kdN : Nat} {r1N r2N p1N p2N p3N p4N p5N p6N q1N q2N q3N q4N : Pos}
    {nmP qP fileP : Str} {CP fP NP cdaP ccP : Addr} {bsP subP : List Value} {snP : List Str} {abP : Bool} {colP : Option Bool} {ddP odP anP cddP cldP : Option Addr} {m0P m1P m2P m3P m5P : Option Value} {dcP pmP ctP cclP clP : Value} {slP ccsP cslP : Array (Option Value)} {vsP : Array Value} {tfP : Tok} {kdP : Nat} {r1P r2P p1P p2P p3P p4P p5P p6P q1P q2P q3P q4P : Pos}
    {nmW qW fileW : Str} {CW fW NW cdaW ccW : Addr} {bsW subW : List Value} {snW : List Str} {abW : Bool} {colW : Option Bool} {ddW odW anW cddW cldW : Option Addr} {m0W m1W m2W m3W m5W : Option Value} {dcW pmW ctW cclW clW : Value} {slW ccsW cslW : Array (Option Value)} {vsW : Array Value} {tfW : Tok} {kdW : Nat} {r1W r2W p1W p2W p3W p4W p5W p6W q1W q2W q3W q4W : Pos}
    {nmG qG fileG : Str} {CG fG NG cdaG ccG : Addr} {bsG subG : List Value} {snG : List Str} {abG : Bool} {colG : Option Bool} {ddG odG anG cddG cldG : Option Addr} {m0G m1G m2G m3G m5G : Option Value} {dcG pmG ctG cclG clG : Value} {slG ccsG cslG : Array (Option Value)} {vsG : Array Value} {tfG : Tok} {kdG : Nat} {r1G r2G p1G p2G p3G p4G p5G p6G q1G q2G q3G q4G : Pos}
    {nmT qT fileT : Str} {CT fT NT cdaT ccT : Addr} {bsT subT : List Value} {snT : List Str} {abT : Bool} {colT : Option Bool} {ddT odT anT cddT cldT : Option Addr} {m0T m1T m2T m3T m5T : Option Value} {dcT pmT ctT cclT clT : Value} {slT ccsT cslT : Array (Option Value)} {vsT : Array Value} {tfT : Tok} {kdT : Nat} {r1T r2T p1T p2T p3T p4T p5T p6T q1T q2T q3T q4T : Pos}
    {nmS qS fileS : Str} {CS fS NS cdaS ccS : Addr} {bsS subS : List Value} {snS : List Str} {abS : Bool} {colS : Option Bool} {ddS odS anS cddS cldS : Option Addr} {m0S m1S m2S m3S m5S : Option Value} {dcS pmS ctS cclS clS : Value} {slS ccsS cslS : Array (Option Value)} {vsS : Array Value} {tfS : Tok} {kdS : Nat} {r1S r2S p1S p2S p3S p4S p5S p6S q1S q2S q3S q4S t1S t2S t3S t4S r3S : Pos}
    (a0 : PySem.W.nsIn K mainGlobals "found_by_halving" = some (some (.ref f0)))
    (l0 : K.lookup f0 = some ⟨.type "function", od0, .func (PySem.W.fnOf "found_by_halving" "found_by_halving" (defArgs s_found_by_halving) (defBody s_found_by_halving) (defScope s_found_by_halving) .none kV0 dc0 pm0 an0 cd0 ct0), sl0⟩)
    (c0 : PySem.W.codeIn K cd0 "found_by_halving" = true)
    (a1 : PySem.W.nsIn K mainGlobals "is_whole" = some (some (.ref f1)))
    (l1 : K.lookup f1 = some ⟨.type "function", od1, .func (PySem.W.fnOf "is_whole" "is_whole" (defArgs s_is_whole) (defBody s_is_whole) (defScope s_is_whole) .none kV1 dc1 pm1 an1 cd1 ct1), sl1⟩)
    (c1 : PySem.W.codeIn K cd1 "is_whole" = true)
    (a2 : PySem.W.nsIn K mainGlobals "is_worth" = some (some (.ref f2)))
    (l2 : K.lookup f2 = some ⟨.type "function", od2, .func (PySem.W.fnOf "is_worth" "is_worth" (defArgs s_is_worth) (defBody s_is_worth) (defScope s_is_worth) .none kV2 dc2 pm2 an2 cd2 ct2), sl2⟩)
    (c2 : PySem.W.codeIn K cd2 "is_worth" = true)
    (a3 : PySem.W.nsIn K mainGlobals "is_worths" = some (some (.ref f3)))
    (l3 : K.lookup f3 = some ⟨.type "function", od3, .func (PySem.W.fnOf "is_worths" "is_worths" (defArgs s_is_worths) (defBody s_is_worths) (defScope s_is_worths) .none kV3 dc3 pm3 an3 cd3 ct3), sl3⟩)
    (c3 : PySem.W.codeIn K cd3 "is_worths" = true)
    (a4 : PySem.W.nsIn K mainGlobals "is_changes" = some (some (.ref f4)))
    (l4 : K.lookup f4 = some ⟨.type "function", od4, .func (PySem.W.fnOf "is_changes" "is_changes" (defArgs s_is_changes) (defBody s_is_changes) (defScope s_is_changes) .none kV4 dc4 pm4 an4 cd4 ct4), sl4⟩)
    (c4 : PySem.W.codeIn K cd4 "is_changes" = true)
    (a5 : PySem.W.nsIn K mainGlobals "_is_change" = some (some (.ref f5)))
    (l5 : K.lookup f5 = some ⟨.type "function", od5, .func (PySem.W.fnOf "_is_change" "_is_change" (defArgs s__is_change) (defBody s__is_change) (defScope s__is_change) .none kV5 dc5 pm5 an5 cd5 ct5), sl5⟩)
    (c5 : PySem.W.codeIn K cd5 "_is_change" = true)
    (a6 : PySem.W.nsIn K mainGlobals "_law_cell_at" = some (some (.ref f6)))
    (l6 : K.lookup f6 = some ⟨.type "function", od6, .func (PySem.W.fnOf "_law_cell_at" "_law_cell_at" (defArgs s__law_cell_at) (defBody s__law_cell_at) (defScope s__law_cell_at) .none kV6 dc6 pm6 an6 cd6 ct6), sl6⟩)
    (c6 : PySem.W.codeIn K cd6 "_law_cell_at" = true)
    (a7 : PySem.W.nsIn K mainGlobals "_law_box" = some (some (.ref f7)))
    (l7 : K.lookup f7 = some ⟨.type "function", od7, .func (PySem.W.fnOf "_law_box" "_law_box" (defArgs s__law_box) (defBody s__law_box) (defScope s__law_box) .none kV7 dc7 pm7 an7 cd7 ct7), sl7⟩)
    (c7 : PySem.W.codeIn K cd7 "_law_box" = true)
    (a8 : PySem.W.nsIn K mainGlobals "_law_take" = some (some (.ref f8)))
    (l8 : K.lookup f8 = some ⟨.type "function", od8, .func (PySem.W.fnOf "_law_take" "_law_take" (defArgs s__law_take) (defBody s__law_take) (defScope s__law_take) .none kV8 dc8 pm8 an8 cd8 ct8), sl8⟩)
    (c8 : PySem.W.codeIn K cd8 "_law_take" = true)
    (a9 : PySem.W.nsIn K mainGlobals "_law_caught" = some (some (.ref f9)))
    (l9 : K.lookup f9 = some ⟨.type "function", od9, .func (PySem.W.fnOf "_law_caught" "_law_caught" (defArgs s__law_caught) (defBody s__law_caught) (defScope s__law_caught) .none kV9 dc9 pm9 an9 cd9 ct9), sl9⟩)
    (c9 : PySem.W.codeIn K cd9 "_law_caught" = true)
    (a10 : PySem.W.nsIn K mainGlobals "_law_told" = some (some (.ref f10)))
    (l10 : K.lookup f10 = some ⟨.type "function", od10, .func (PySem.W.fnOf "_law_told" "_law_told" (defArgs s__law_told) (defBody s__law_told) (defScope s__law_told) .none kV10 dc10 pm10 an10 cd10 ct10), sl10⟩)
    (c10 : PySem.W.codeIn K cd10 "_law_told" = true)
    (a11 : PySem.W.nsIn K mainGlobals "_law_seen" = some (some (.ref f11)))
    (l11 : K.lookup f11 = some ⟨.type "function", od11, .func (PySem.W.fnOf "_law_seen" "_law_seen" (defArgs s__law_seen) (defBody s__law_seen) (defScope s__law_seen) .none kV11 dc11 pm11 an11 cd11 ct11), sl11⟩)
    (c11 : PySem.W.codeIn K cd11 "_law_seen" = true)
    (a12 : PySem.W.nsIn K mainGlobals "_law_bad" = some (some (.ref f12)))
    (l12 : K.lookup f12 = some ⟨.type "function", od12, .func (PySem.W.fnOf "_law_bad" "_law_bad" (defArgs s__law_bad) (defBody s__law_bad) (defScope s__law_bad) .none kV12 dc12 pm12 an12 cd12 ct12), sl12⟩)
    (c12 : PySem.W.codeIn K cd12 "_law_bad" = true)
    (a13 : PySem.W.nsIn K mainGlobals "_law_bad_right" = some (some (.ref f13)))
    (l13 : K.lookup f13 = some ⟨.type "function", od13, .func (PySem.W.fnOf "_law_bad_right" "_law_bad_right" (defArgs s__law_bad_right) (defBody s__law_bad_right) (defScope s__law_bad_right) .none kV13 dc13 pm13 an13 cd13 ct13), sl13⟩)
    (c13 : PySem.W.codeIn K cd13 "_law_bad_right" = true)
    (a14 : PySem.W.nsIn K mainGlobals "_law_ask" = some (some (.ref f14)))
    (l14 : K.lookup f14 = some ⟨.type "function", od14, .func (PySem.W.fnOf "_law_ask" "_law_ask" (defArgs s__law_ask) (defBody s__law_ask) (defScope s__law_ask) .none kV14 dc14 pm14 an14 cd14 ct14), sl14⟩)
    (c14 : PySem.W.codeIn K cd14 "_law_ask" = true)
    (a15 : PySem.W.nsIn K mainGlobals "_law_bad_ask" = some (some (.ref f15)))
    (l15 : K.lookup f15 = some ⟨.type "function", od15, .func (PySem.W.fnOf "_law_bad_ask" "_law_bad_ask" (defArgs s__law_bad_ask) (defBody s__law_bad_ask) (defScope s__law_bad_ask) .none kV15 dc15 pm15 an15 cd15 ct15), sl15⟩)
    (c15 : PySem.W.codeIn K cd15 "_law_bad_ask" = true)
    (a16 : PySem.W.nsIn K mainGlobals "_law_asks_refused" = some (some (.ref f16)))
    (l16 : K.lookup f16 = some ⟨.type "function", od16, .func (PySem.W.fnOf "_law_asks_refused" "_law_asks_refused" (defArgs s__law_asks_refused) (defBody s__law_asks_refused) (defScope s__law_asks_refused) .none kV16 dc16 pm16 an16 cd16 ct16), sl16⟩)
    (c16 : PySem.W.codeIn K cd16 "_law_asks_refused" = true)
    (a17 : PySem.W.nsIn K mainGlobals "_law_full_right" = some (some (.ref f17)))
    (l17 : K.lookup f17 = some ⟨.type "function", od17, .func (PySem.W.fnOf "_law_full_right" "_law_full_right" (defArgs s__law_full_right) (defBody s__law_full_right) (defScope s__law_full_right) .none kV17 dc17 pm17 an17 cd17 ct17), sl17⟩)
    (c17 : PySem.W.codeIn K cd17 "_law_full_right" = true)
    (a18 : PySem.W.nsIn K mainGlobals "law" = some (some (.ref f18)))
    (l18 : K.lookup f18 = some ⟨.type "function", od18, .func (PySem.W.fnOf "law" "law" (defArgs s_law) (defBody s_law) (defScope s_law) .none kV18 dc18 pm18 an18 cd18 ct18), sl18⟩)
    (c18 : PySem.W.codeIn K cd18 "law" = true)
    (z_len : PySem.W.nsIn K mainGlobals "len" = some none)
    (z_max : PySem.W.nsIn K mainGlobals "max" = some none)
    (z_min : PySem.W.nsIn K mainGlobals "min" = some none)
    (z_range : PySem.W.nsIn K mainGlobals "range" = some none)
    (z_repr : PySem.W.nsIn K mainGlobals "repr" = some none)
    (z_all : PySem.W.nsIn K mainGlobals "all" = some none)
    (z_enumerate : PySem.W.nsIn K mainGlobals "enumerate" = some none)
    (z_tuple : PySem.W.nsIn K mainGlobals "tuple" = some none)
    (z_isinstance : PySem.W.nsIn K mainGlobals "isinstance" = some none)
    (z_int : PySem.W.nsIn K mainGlobals "int" = some none)
    (z_bool : PySem.W.nsIn K mainGlobals "bool" = some none)
    (z_list : PySem.W.nsIn K mainGlobals "list" = some none)
    (z_sum : PySem.W.nsIn K mainGlobals "sum" = some none)
    (z_zip : PySem.W.nsIn K mainGlobals "zip" = some none)
    (z_sorted : PySem.W.nsIn K mainGlobals "sorted" = some none)
    (z_reversed : PySem.W.nsIn K mainGlobals "reversed" = some none)
    (i_MOST_MAKES : PySem.W.nsIn K mainGlobals "MOST_MAKES" = some (some (.int 64 t_MOST_MAKES)))
    (i_MOST_CHANGES : PySem.W.nsIn K mainGlobals "MOST_CHANGES" = some (some (.int 20 t_MOST_CHANGES)))
    (i_MOST_PLACES : PySem.W.nsIn K mainGlobals "MOST_PLACES" = some (some (.int 16 t_MOST_PLACES)))
    (i_MOST_WORTH : PySem.W.nsIn K mainGlobals "MOST_WORTH" = some (some (.int (10 ^ 30 - 1) t_MOST_WORTH)))
    (a_CM : PySem.W.nsIn K mainGlobals "MakeTree" = some (some (.ref CM)))
    (a_CL : PySem.W.nsIn K mainGlobals "LeapTree" = some (some (.ref CL)))
    (pg_CL : PySem.W.plainGet K CL Str.empty = true)
    (hd_CL : PySem.W.hasDictIn K CL = true)
    (po_CL : PySem.W.plainOver K CL = true)
    (sa_CL : PySem.W.findIn K (.ref CL) "__setattr__" = some (some (.builtin "object.__setattr__")))
    (no_CL__owns : PySem.W.findIn K (.ref CL) "_owns" = some none)
    (no_CL__depths : PySem.W.findIn K (.ref CL) "_depths" = some none)
    (no_CL__on : PySem.W.findIn K (.ref CL) "_on" = some none)
    (no_CL__leaps : PySem.W.findIn K (.ref CL) "_leaps" = some none)
    (mk_CL : PySem.W.makesIn K CL = true)
    (kp_CL : PySem.W.keepIn K (.ref CL) = true)
    (m_CM_many_CL : PySem.W.findIn K (.ref CL) "many" = some (some (.ref f_CM_many)))
    (l_CM_many : K.lookup f_CM_many = some ⟨.type "function", od_CM_many, .func (PySem.W.fnOf "many" "MakeTree.many" (defArgs s_MakeTree_many) (defBody s_MakeTree_many) (defScope s_MakeTree_many) .none kV_CM_many dc_CM_many pm_CM_many an_CM_many cd_CM_many ct_CM_many), sl_CM_many⟩)
    (c_CM_many : PySem.W.codeIn K cd_CM_many "MakeTree.many" = true)
    (m_CM_need_make_CL : PySem.W.findIn K (.ref CL) "_need_make" = some (some (.ref f_CM_need_make)))
    (l_CM_need_make : K.lookup f_CM_need_make = some ⟨.type "function", od_CM_need_make, .func (PySem.W.fnOf "_need_make" "MakeTree._need_make" (defArgs s_MakeTree__need_make) (defBody s_MakeTree__need_make) (defScope s_MakeTree__need_make) .none kV_CM_need_make dc_CM_need_make pm_CM_need_make an_CM_need_make cd_CM_need_make ct_CM_need_make), sl_CM_need_make⟩)
    (c_CM_need_make : PySem.W.codeIn K cd_CM_need_make "MakeTree._need_make" = true)
    (m_CM_own_CL : PySem.W.findIn K (.ref CL) "own" = some (some (.ref f_CM_own)))
    (l_CM_own : K.lookup f_CM_own = some ⟨.type "function", od_CM_own, .func (PySem.W.fnOf "own" "MakeTree.own" (defArgs s_MakeTree_own) (defBody s_MakeTree_own) (defScope s_MakeTree_own) .none kV_CM_own dc_CM_own pm_CM_own an_CM_own cd_CM_own ct_CM_own), sl_CM_own⟩)
    (c_CM_own : PySem.W.codeIn K cd_CM_own "MakeTree.own" = true)
    (m_CM_line_CL : PySem.W.findIn K (.ref CL) "line" = some (some (.ref f_CM_line)))
    (l_CM_line : K.lookup f_CM_line = some ⟨.type "function", od_CM_line, .func (PySem.W.fnOf "line" "MakeTree.line" (defArgs s_MakeTree_line) (defBody s_MakeTree_line) (defScope s_MakeTree_line) .none kV_CM_line dc_CM_line pm_CM_line an_CM_line cd_CM_line ct_CM_line), sl_CM_line⟩)
    (c_CM_line : PySem.W.codeIn K cd_CM_line "MakeTree.line" = true)
    (m_CM_grow : PySem.W.findIn K (.ref CM) "grow" = some (some (.ref f_CM_grow)))
    (l_CM_grow : K.lookup f_CM_grow = some ⟨.type "function", od_CM_grow, .func (PySem.W.fnOf "grow" "MakeTree.grow" (defArgs s_MakeTree_grow) (defBody s_MakeTree_grow) (defScope s_MakeTree_grow) .none kV_CM_grow dc_CM_grow pm_CM_grow an_CM_grow cd_CM_grow ct_CM_grow), sl_CM_grow⟩)
    (c_CM_grow : PySem.W.codeIn K cd_CM_grow "MakeTree.grow" = true)
    (m_CM_init : PySem.W.findIn K (.ref CM) "__init__" = some (some (.ref f_CM_init)))
    (l_CM_init : K.lookup f_CM_init = some ⟨.type "function", od_CM_init, .func (PySem.W.fnOf "__init__" "MakeTree.__init__" (defArgs s_MakeTree___init__) (defBody s_MakeTree___init__) (defScope s_MakeTree___init__) .none kV_CM_init dc_CM_init pm_CM_init an_CM_init cd_CM_init ct_CM_init), sl_CM_init⟩)
    (c_CM_init : PySem.W.codeIn K cd_CM_init "MakeTree.__init__" = true)
    (m_CL_leaps_through : PySem.W.findIn K (.ref CL) "_leaps_through" = some (some (.ref f_CL_leaps_through)))
    (l_CL_leaps_through : K.lookup f_CL_leaps_through = some ⟨.type "function", od_CL_leaps_through, .func (PySem.W.fnOf "_leaps_through" "LeapTree._leaps_through" (defArgs s_LeapTree__leaps_through) (defBody s_LeapTree__leaps_through) (defScope s_LeapTree__leaps_through) .none kV_CL_leaps_through dc_CL_leaps_through pm_CL_leaps_through an_CL_leaps_through cd_CL_leaps_through ct_CL_leaps_through), sl_CL_leaps_through⟩)
    (c_CL_leaps_through : PySem.W.codeIn K cd_CL_leaps_through "LeapTree._leaps_through" = true)
    (op : PySem.W.nsIn K cStatics "thirdparty.any" = some none)
    (zs : PySem.W.nsIn K mainGlobals "super" = some none)
    (htop : (l.prog.main.scope.names.lookup ("super" : Str)).isSome = false)
    (x_CL : K.lookup CL = some ⟨xc_CL, xd_CL, .cls ic_CL, xs_CL⟩)
    (mm_CL : PySem.W.mroIn K CL (.ref CL) = some true)
    (m_CL_grow : PySem.W.findIn K (.ref CL) "grow" = some (some (.ref f_CL_grow)))
    (l_CL_grow : K.lookup f_CL_grow = some ⟨.type "function", od_CL_grow, .func (PySem.W.ksFn "grow" "LeapTree.grow" (defArgs s_LeapTree_grow) (defBody s_LeapTree_grow) (defScope s_LeapTree_grow) .none .none dc_CL_grow pm_CL_grow an_CL_grow (.ref co_CL_grow) ct_CL_grow cc_CL_grow), sl_CL_grow⟩)
    (c_CL_grow : PySem.W.codeIn K (.ref co_CL_grow) "LeapTree.grow" = true)
    (dl_CL_grow : K.lookup co_CL_grow = some ⟨ccl_CL_grow, cdd_CL_grow, .fields vs_CL_grow, ccs_CL_grow⟩)
    (fv_CL_grow : vs_CL_grow[2]? = some (.str file_CL_grow tf_CL_grow))
    (fl_CL_grow : ((l.prog.main.file : Str) == file_CL_grow) = true)
    (zc_CL_grow : K.lookup cc_CL_grow = some ⟨cv_CL_grow, cld_CL_grow, .cell (some (.ref CL)), csl_CL_grow⟩)
    (su_CL_grow : PySem.W.ks_superIn K CL CL "grow" = some (some (.ref f_CM_grow)))
    (m_CL_init : PySem.W.findIn K (.ref CL) "__init__" = some (some (.ref f_CL_init)))
    (l_CL_init : K.lookup f_CL_init = some ⟨.type "function", od_CL_init, .func (PySem.W.ksFn "__init__" "LeapTree.__init__" (defArgs s_LeapTree___init__) (defBody s_LeapTree___init__) (defScope s_LeapTree___init__) .none .none dc_CL_init pm_CL_init an_CL_init (.ref co_CL_init) ct_CL_init cc_CL_init), sl_CL_init⟩)
    (c_CL_init : PySem.W.codeIn K (.ref co_CL_init) "LeapTree.__init__" = true)
    (dl_CL_init : K.lookup co_CL_init = some ⟨ccl_CL_init, cdd_CL_init, .fields vs_CL_init, ccs_CL_init⟩)
    (fv_CL_init : vs_CL_init[2]? = some (.str file_CL_init tf_CL_init))
    (fl_CL_init : ((l.prog.main.file : Str) == file_CL_init) = true)
    (zc_CL_init : K.lookup cc_CL_init = some ⟨cv_CL_init, cld_CL_init, .cell (some (.ref CL)), csl_CL_init⟩)
    (su_CL_init : PySem.W.ks_superIn K CL CL "__init__" = some (some (.ref f_CM_init)))
    (a_C : PySem.W.nsIn K mainGlobals "Lined" = some (some (.ref C)))
    (pg_C : PySem.W.plainGet K C Str.empty = true)
    (hd_C : PySem.W.hasDictIn K C = true)
    (po_C : PySem.W.plainOver K C = true)
    (sa_C : PySem.W.findIn K (.ref C) "__setattr__" = some (some (.builtin "object.__setattr__")))
    (no_C__row_size : PySem.W.findIn K (.ref C) "_row_size" = some none)
    (no_C__row_tree : PySem.W.findIn K (.ref C) "_row_tree" = some none)
    (no_C__row_places : PySem.W.findIn K (.ref C) "_row_places" = some none)
    (no_C__row_kept : PySem.W.findIn K (.ref C) "_row_kept" = some none)
    (no_C__row_steps : PySem.W.findIn K (.ref C) "_row_steps" = some none)
    (no_C__boxes : PySem.W.findIn K (.ref C) "_boxes" = some none)
    (mk_C : PySem.W.makesIn K C = true)
    (kp_C : PySem.W.keepIn K (.ref C) = true)
    (m_C_init : PySem.W.findIn K (.ref C) "__init__" = some (some (.ref f_C_init)))
    (l_C_init : K.lookup f_C_init = some ⟨.type "function", od_C_init, .func (PySem.W.fnOf "__init__" "Rows.__init__" (defArgs s_Rows___init__) (defBody s_Rows___init__) (defScope s_Rows___init__) .none kV_C_init dc_C_init pm_C_init an_C_init cd_C_init ct_C_init), sl_C_init⟩)
    (c_C_init : PySem.W.codeIn K cd_C_init "Rows.__init__" = true)
    (m_C_size : PySem.W.findIn K (.ref C) "size" = some (some (.ref f_C_size)))
    (l_C_size : K.lookup f_C_size = some ⟨.type "function", od_C_size, .func (PySem.W.fnOf "size" "Rows.size" (defArgs s_Rows_size) (defBody s_Rows_size) (defScope s_Rows_size) .none kV_C_size dc_C_size pm_C_size an_C_size cd_C_size ct_C_size), sl_C_size⟩)
    (c_C_size : PySem.W.codeIn K cd_C_size "Rows.size" = true)
    (m_C_many : PySem.W.findIn K (.ref C) "many" = some (some (.ref f_C_many)))
    (l_C_many : K.lookup f_C_many = some ⟨.type "function", od_C_many, .func (PySem.W.fnOf "many" "Rows.many" (defArgs s_Rows_many) (defBody s_Rows_many) (defScope s_Rows_many) .none kV_C_many dc_C_many pm_C_many an_C_many cd_C_many ct_C_many), sl_C_many⟩)
    (c_C_many : PySem.W.codeIn K cd_C_many "Rows.many" = true)
    (m_C_makes : PySem.W.findIn K (.ref C) "makes" = some (some (.ref f_C_makes)))
    (l_C_makes : K.lookup f_C_makes = some ⟨.type "function", od_C_makes, .func (PySem.W.fnOf "makes" "Rows.makes" (defArgs s_Rows_makes) (defBody s_Rows_makes) (defScope s_Rows_makes) .none kV_C_makes dc_C_makes pm_C_makes an_C_makes cd_C_makes ct_C_makes), sl_C_makes⟩)
    (c_C_makes : PySem.W.codeIn K cd_C_makes "Rows.makes" = true)
    (m_C_steps : PySem.W.findIn K (.ref C) "steps" = some (some (.ref f_C_steps)))
    (l_C_steps : K.lookup f_C_steps = some ⟨.type "function", od_C_steps, .func (PySem.W.fnOf "steps" "Rows.steps" (defArgs s_Rows_steps) (defBody s_Rows_steps) (defScope s_Rows_steps) .none kV_C_steps dc_C_steps pm_C_steps an_C_steps cd_C_steps ct_C_steps), sl_C_steps⟩)
    (c_C_steps : PySem.W.codeIn K cd_C_steps "Rows.steps" = true)
    (m_C_at : PySem.W.findIn K (.ref C) "at" = some (some (.ref f_C_at)))
    (l_C_at : K.lookup f_C_at = some ⟨.type "function", od_C_at, .func (PySem.W.fnOf "at" "Rows.at" (defArgs s_Rows_at) (defBody s_Rows_at) (defScope s_Rows_at) .none kV_C_at dc_C_at pm_C_at an_C_at cd_C_at ct_C_at), sl_C_at⟩)
    (c_C_at : PySem.W.codeIn K cd_C_at "Rows.at" = true)
    (m_C_row : PySem.W.findIn K (.ref C) "row" = some (some (.ref f_C_row)))
    (l_C_row : K.lookup f_C_row = some ⟨.type "function", od_C_row, .func (PySem.W.fnOf "row" "Rows.row" (defArgs s_Rows_row) (defBody s_Rows_row) (defScope s_Rows_row) .none kV_C_row dc_C_row pm_C_row an_C_row cd_C_row ct_C_row), sl_C_row⟩)
    (c_C_row : PySem.W.codeIn K cd_C_row "Rows.row" = true)
    (m_C_stretch : PySem.W.findIn K (.ref C) "stretch" = some (some (.ref f_C_stretch)))
    (l_C_stretch : K.lookup f_C_stretch = some ⟨.type "function", od_C_stretch, .func (PySem.W.fnOf "stretch" "Rows.stretch" (defArgs s_Rows_stretch) (defBody s_Rows_stretch) (defScope s_Rows_stretch) .none kV_C_stretch dc_C_stretch pm_C_stretch an_C_stretch cd_C_stretch ct_C_stretch), sl_C_stretch⟩)
    (c_C_stretch : PySem.W.codeIn K cd_C_stretch "Rows.stretch" = true)
    (m_C_writer : PySem.W.findIn K (.ref C) "writer" = some (some (.ref f_C_writer)))
    (l_C_writer : K.lookup f_C_writer = some ⟨.type "function", od_C_writer, .func (PySem.W.fnOf "writer" "Rows.writer" (defArgs s_Rows_writer) (defBody s_Rows_writer) (defScope s_Rows_writer) .none kV_C_writer dc_C_writer pm_C_writer an_C_writer cd_C_writer ct_C_writer), sl_C_writer⟩)
    (c_C_writer : PySem.W.codeIn K cd_C_writer "Rows.writer" = true)
    (m_C_place_of : PySem.W.findIn K (.ref C) "place_of" = some (some (.ref f_C_place_of)))
    (l_C_place_of : K.lookup f_C_place_of = some ⟨.type "function", od_C_place_of, .func (PySem.W.fnOf "place_of" "Rows.place_of" (defArgs s_Rows_place_of) (defBody s_Rows_place_of) (defScope s_Rows_place_of) .none kV_C_place_of dc_C_place_of pm_C_place_of an_C_place_of cd_C_place_of ct_C_place_of), sl_C_place_of⟩)
    (c_C_place_of : PySem.W.codeIn K cd_C_place_of "Rows.place_of" = true)
    (m_C_worths_in : PySem.W.findIn K (.ref C) "worths_in" = some (some (.ref f_C_worths_in)))
    (l_C_worths_in : K.lookup f_C_worths_in = some ⟨.type "function", od_C_worths_in, .func (PySem.W.fnOf "worths_in" "Rows.worths_in" (defArgs s_Rows_worths_in) (defBody s_Rows_worths_in) (defScope s_Rows_worths_in) .none kV_C_worths_in dc_C_worths_in pm_C_worths_in an_C_worths_in cd_C_worths_in ct_C_worths_in), sl_C_worths_in⟩)
    (c_C_worths_in : PySem.W.codeIn K cd_C_worths_in "Rows.worths_in" = true)
    (m_C_add_steps : PySem.W.findIn K (.ref C) "add_steps" = some (some (.ref f_C_add_steps)))
    (l_C_add_steps : K.lookup f_C_add_steps = some ⟨.type "function", od_C_add_steps, .func (PySem.W.fnOf "add_steps" "Rows.add_steps" (defArgs s_Rows_add_steps) (defBody s_Rows_add_steps) (defScope s_Rows_add_steps) .none kV_C_add_steps dc_C_add_steps pm_C_add_steps an_C_add_steps cd_C_add_steps ct_C_add_steps), sl_C_add_steps⟩)
    (c_C_add_steps : PySem.W.codeIn K cd_C_add_steps "Rows.add_steps" = true)
    (m_C_need_make : PySem.W.findIn K (.ref C) "need_make" = some (some (.ref f_C_need_make)))
    (l_C_need_make : K.lookup f_C_need_make = some ⟨.type "function", od_C_need_make, .func (PySem.W.fnOf "need_make" "Rows.need_make" (defArgs s_Rows_need_make) (defBody s_Rows_need_make) (defScope s_Rows_need_make) .none kV_C_need_make dc_C_need_make pm_C_need_make an_C_need_make cd_C_need_make ct_C_need_make), sl_C_need_make⟩)
    (c_C_need_make : PySem.W.codeIn K cd_C_need_make "Rows.need_make" = true)
    (m_C_need_place : PySem.W.findIn K (.ref C) "need_place" = some (some (.ref f_C_need_place)))
    (l_C_need_place : K.lookup f_C_need_place = some ⟨.type "function", od_C_need_place, .func (PySem.W.fnOf "need_place" "Rows.need_place" (defArgs s_Rows_need_place) (defBody s_Rows_need_place) (defScope s_Rows_need_place) .none kV_C_need_place dc_C_need_place pm_C_need_place an_C_need_place cd_C_need_place ct_C_need_place), sl_C_need_place⟩)
    (c_C_need_place : PySem.W.codeIn K cd_C_need_place "Rows.need_place" = true)
    (m_C_need_stretch : PySem.W.findIn K (.ref C) "need_stretch" = some (some (.ref f_C_need_stretch)))
    (l_C_need_stretch : K.lookup f_C_need_stretch = some ⟨.type "function", od_C_need_stretch, .func (PySem.W.fnOf "need_stretch" "Rows.need_stretch" (defArgs s_Rows_need_stretch) (defBody s_Rows_need_stretch) (defScope s_Rows_need_stretch) .none kV_C_need_stretch dc_C_need_stretch pm_C_need_stretch an_C_need_stretch cd_C_need_stretch ct_C_need_stretch), sl_C_need_stretch⟩)
    (c_C_need_stretch : PySem.W.codeIn K cd_C_need_stretch "Rows.need_stretch" = true)
    (m_C_row_need_there : PySem.W.findIn K (.ref C) "_row_need_there" = some (some (.ref f_C_row_need_there)))
    (l_C_row_need_there : K.lookup f_C_row_need_there = some ⟨.type "function", od_C_row_need_there, .func (PySem.W.fnOf "_row_need_there" "Rows._row_need_there" (defArgs s_Rows__row_need_there) (defBody s_Rows__row_need_there) (defScope s_Rows__row_need_there) .none kV_C_row_need_there dc_C_row_need_there pm_C_row_need_there an_C_row_need_there cd_C_row_need_there ct_C_row_need_there), sl_C_row_need_there⟩)
    (c_C_row_need_there : PySem.W.codeIn K cd_C_row_need_there "Rows._row_need_there" = true)
    (m_C_up_to_writer : PySem.W.findIn K (.ref C) "_up_to_writer" = some (some (.ref f_C_up_to_writer)))
    (l_C_up_to_writer : K.lookup f_C_up_to_writer = some ⟨.type "function", od_C_up_to_writer, .func (PySem.W.fnOf "_up_to_writer" "Rows._up_to_writer" (defArgs s_Rows__up_to_writer) (defBody s_Rows__up_to_writer) (defScope s_Rows__up_to_writer) .none kV_C_up_to_writer dc_C_up_to_writer pm_C_up_to_writer an_C_up_to_writer cd_C_up_to_writer ct_C_up_to_writer), sl_C_up_to_writer⟩)
    (c_C_up_to_writer : PySem.W.codeIn K cd_C_up_to_writer "Rows._up_to_writer" = true)
    (m_C_row_put : PySem.W.findIn K (.ref C) "_row_put" = some (some (.ref f_C_row_put)))
    (l_C_row_put : K.lookup f_C_row_put = some ⟨.type "function", od_C_row_put, .func (PySem.W.fnOf "_row_put" "Rows._row_put" (defArgs s_Rows__row_put) (defBody s_Rows__row_put) (defScope s_Rows__row_put) .none kV_C_row_put dc_C_row_put pm_C_row_put an_C_row_put cd_C_row_put ct_C_row_put), sl_C_row_put⟩)
    (c_C_row_put : PySem.W.codeIn K cd_C_row_put "Rows._row_put" = true)
    (m_C_row_need_room_for : PySem.W.findIn K (.ref C) "_row_need_room_for" = some (some (.ref f_C_row_need_room_for)))
    (l_C_row_need_room_for : K.lookup f_C_row_need_room_for = some ⟨.type "function", od_C_row_need_room_for, .func (PySem.W.fnOf "_row_need_room_for" "Rows._row_need_room_for" (defArgs s_Rows__row_need_room_for) (defBody s_Rows__row_need_room_for) (defScope s_Rows__row_need_room_for) .none kV_C_row_need_room_for dc_C_row_need_room_for pm_C_row_need_room_for an_C_row_need_room_for cd_C_row_need_room_for ct_C_row_need_room_for), sl_C_row_need_room_for⟩)
    (c_C_row_need_room_for : PySem.W.codeIn K cd_C_row_need_room_for "Rows._row_need_room_for" = true)
    (m_C_row_writers : PySem.W.findIn K (.ref C) "_row_writers" = some (some (.ref f_C_row_writers)))
    (l_C_row_writers : K.lookup f_C_row_writers = some ⟨.type "function", od_C_row_writers, .func (PySem.W.fnOf "_row_writers" "Rows._row_writers" (defArgs s_Rows__row_writers) (defBody s_Rows__row_writers) (defScope s_Rows__row_writers) .none kV_C_row_writers dc_C_row_writers pm_C_row_writers an_C_row_writers cd_C_row_writers ct_C_row_writers), sl_C_row_writers⟩)
    (c_C_row_writers : PySem.W.codeIn K cd_C_row_writers "Rows._row_writers" = true)
    (m_C_needed_no_more : PySem.W.findIn K (.ref C) "_needed_no_more" = some (some (.ref f_C_needed_no_more)))
    (l_C_needed_no_more : K.lookup f_C_needed_no_more = some ⟨.type "function", od_C_needed_no_more, .func (PySem.W.fnOf "_needed_no_more" "Rows._needed_no_more" (defArgs s_Rows__needed_no_more) (defBody s_Rows__needed_no_more) (defScope s_Rows__needed_no_more) .none kV_C_needed_no_more dc_C_needed_no_more pm_C_needed_no_more an_C_needed_no_more cd_C_needed_no_more ct_C_needed_no_more), sl_C_needed_no_more⟩)
    (c_C_needed_no_more : PySem.W.codeIn K cd_C_needed_no_more "Rows._needed_no_more" = true)
    (m_C_begin : PySem.W.findIn K (.ref C) "begin" = some (some (.ref f_C_begin)))
    (l_C_begin : K.lookup f_C_begin = some ⟨.type "function", od_C_begin, .func (PySem.W.fnOf "begin" "Lined.begin" (defArgs s_Lined_begin) (defBody s_Lined_begin) (defScope s_Lined_begin) .none kV_C_begin dc_C_begin pm_C_begin an_C_begin cd_C_begin ct_C_begin), sl_C_begin⟩)
    (c_C_begin : PySem.W.codeIn K cd_C_begin "Lined.begin" = true)
    (m_C_store : PySem.W.findIn K (.ref C) "store" = some (some (.ref f_C_store)))
    (l_C_store : K.lookup f_C_store = some ⟨.type "function", od_C_store, .func (PySem.W.fnOf "store" "Lined.store" (defArgs s_Lined_store) (defBody s_Lined_store) (defScope s_Lined_store) .none kV_C_store dc_C_store pm_C_store an_C_store cd_C_store ct_C_store), sl_C_store⟩)
    (c_C_store : PySem.W.codeIn K cd_C_store "Lined.store" = true)
    (m_C_freed : PySem.W.findIn K (.ref C) "freed" = some (some (.ref f_C_freed)))
    (l_C_freed : K.lookup f_C_freed = some ⟨.type "function", od_C_freed, .func (PySem.W.fnOf "freed" "Lined.freed" (defArgs s_Lined_freed) (defBody s_Lined_freed) (defScope s_Lined_freed) .none kV_C_freed dc_C_freed pm_C_freed an_C_freed cd_C_freed ct_C_freed), sl_C_freed⟩)
    (c_C_freed : PySem.W.codeIn K cd_C_freed "Lined.freed" = true)
    (m_C_looked : PySem.W.findIn K (.ref C) "looked" = some (some (.ref f_C_looked)))
    (l_C_looked : K.lookup f_C_looked = some ⟨.type "function", od_C_looked, .func (PySem.W.fnOf "looked" "Lined.looked" (defArgs s_Lined_looked) (defBody s_Lined_looked) (defScope s_Lined_looked) .none kV_C_looked dc_C_looked pm_C_looked an_C_looked cd_C_looked ct_C_looked), sl_C_looked⟩)
    (c_C_looked : PySem.W.codeIn K cd_C_looked "Lined.looked" = true)
    (m_C_box : PySem.W.findIn K (.ref C) "box" = some (some (.ref f_C_box)))
    (l_C_box : K.lookup f_C_box = some ⟨.type "function", od_C_box, .func (PySem.W.fnOf "box" "Lined.box" (defArgs s_Lined_box) (defBody s_Lined_box) (defScope s_Lined_box) .none kV_C_box dc_C_box pm_C_box an_C_box cd_C_box ct_C_box), sl_C_box⟩)
    (c_C_box : PySem.W.codeIn K cd_C_box "Lined.box" = true)
    (m_C_need_new : PySem.W.findIn K (.ref C) "need_new" = some (some (.ref f_C_need_new)))
    (l_C_need_new : K.lookup f_C_need_new = some ⟨.type "function", od_C_need_new, .func (PySem.W.fnOf "need_new" "Lined.need_new" (defArgs s_Lined_need_new) (defBody s_Lined_need_new) (defScope s_Lined_need_new) .none kV_C_need_new dc_C_need_new pm_C_need_new an_C_need_new cd_C_need_new ct_C_need_new), sl_C_need_new⟩)
    (c_C_need_new : PySem.W.codeIn K cd_C_need_new "Lined.need_new" = true)
    (a_CR : PySem.W.nsIn K mainGlobals "Rows" = some (some (.ref CR)))
    (m_CR_let_go : PySem.W.findIn K (.ref CR) "let_go" = some (some (.ref f_CR_let_go)))
    (l_CR_let_go : K.lookup f_CR_let_go = some ⟨.type "function", od_CR_let_go, .func (PySem.W.fnOf "let_go" "Rows.let_go" (defArgs s_Rows_let_go) (defBody s_Rows_let_go) (defScope s_Rows_let_go) .none kV_CR_let_go dc_CR_let_go pm_CR_let_go an_CR_let_go cd_CR_let_go ct_CR_let_go), sl_CR_let_go⟩)
    (c_CR_let_go : PySem.W.codeIn K cd_CR_let_go "Rows.let_go" = true)
    (m_CR_put : PySem.W.findIn K (.ref CR) "put" = some (some (.ref f_CR_put)))
    (l_CR_put : K.lookup f_CR_put = some ⟨.type "function", od_CR_put, .func (PySem.W.fnOf "put" "Rows.put" (defArgs s_Rows_put) (defBody s_Rows_put) (defScope s_Rows_put) .none kV_CR_put dc_CR_put pm_CR_put an_CR_put cd_CR_put ct_CR_put), sl_CR_put⟩)
    (c_CR_put : PySem.W.codeIn K cd_CR_put "Rows.put" = true)
    (m_CR_put_all : PySem.W.findIn K (.ref CR) "put_all" = some (some (.ref f_CR_put_all)))
    (l_CR_put_all : K.lookup f_CR_put_all = some ⟨.type "function", od_CR_put_all, .func (PySem.W.fnOf "put_all" "Rows.put_all" (defArgs s_Rows_put_all) (defBody s_Rows_put_all) (defScope s_Rows_put_all) .none kV_CR_put_all dc_CR_put_all pm_CR_put_all an_CR_put_all cd_CR_put_all ct_CR_put_all), sl_CR_put_all⟩)
    (c_CR_put_all : PySem.W.codeIn K cd_CR_put_all "Rows.put_all" = true)
    (x_C : K.lookup C = some ⟨xc_C, xd_C, .cls ic_C, xs_C⟩)
    (mm_C : PySem.W.mroIn K C (.ref C) = some true)
    (m_C_let_go : PySem.W.findIn K (.ref C) "let_go" = some (some (.ref f_C_let_go)))
    (l_C_let_go : K.lookup f_C_let_go = some ⟨.type "function", od_C_let_go, .func (PySem.W.ksFn "let_go" "Lined.let_go" (defArgs s_Lined_let_go) (defBody s_Lined_let_go) (defScope s_Lined_let_go) .none .none dc_C_let_go pm_C_let_go an_C_let_go (.ref co_C_let_go) ct_C_let_go cc_C_let_go), sl_C_let_go⟩)
    (c_C_let_go : PySem.W.codeIn K (.ref co_C_let_go) "Lined.let_go" = true)
    (dl_C_let_go : K.lookup co_C_let_go = some ⟨ccl_C_let_go, cdd_C_let_go, .fields vs_C_let_go, ccs_C_let_go⟩)
    (fv_C_let_go : vs_C_let_go[2]? = some (.str file_C_let_go tf_C_let_go))
    (fl_C_let_go : ((l.prog.main.file : Str) == file_C_let_go) = true)
    (zc_C_let_go : K.lookup cc_C_let_go = some ⟨cv_C_let_go, cld_C_let_go, .cell (some (.ref C)), csl_C_let_go⟩)
    (su_C_let_go : PySem.W.ks_superIn K C C "let_go" = some (some (.ref f_CR_let_go)))
    (m_C_put : PySem.W.findIn K (.ref C) "put" = some (some (.ref f_C_put)))
    (l_C_put : K.lookup f_C_put = some ⟨.type "function", od_C_put, .func (PySem.W.ksFn "put" "Lined.put" (defArgs s_Lined_put) (defBody s_Lined_put) (defScope s_Lined_put) .none .none dc_C_put pm_C_put an_C_put (.ref co_C_put) ct_C_put cc_C_put), sl_C_put⟩)
    (c_C_put : PySem.W.codeIn K (.ref co_C_put) "Lined.put" = true)
    (dl_C_put : K.lookup co_C_put = some ⟨ccl_C_put, cdd_C_put, .fields vs_C_put, ccs_C_put⟩)
    (fv_C_put : vs_C_put[2]? = some (.str file_C_put tf_C_put))
    (fl_C_put : ((l.prog.main.file : Str) == file_C_put) = true)
    (zc_C_put : K.lookup cc_C_put = some ⟨cv_C_put, cld_C_put, .cell (some (.ref C)), csl_C_put⟩)
    (su_C_put : PySem.W.ks_superIn K C C "put" = some (some (.ref f_CR_put)))
    (m_C_put_all : PySem.W.findIn K (.ref C) "put_all" = some (some (.ref f_C_put_all)))
    (l_C_put_all : K.lookup f_C_put_all = some ⟨.type "function", od_C_put_all, .func (PySem.W.ksFn "put_all" "Lined.put_all" (defArgs s_Lined_put_all) (defBody s_Lined_put_all) (defScope s_Lined_put_all) .none .none dc_C_put_all pm_C_put_all an_C_put_all (.ref co_C_put_all) ct_C_put_all cc_C_put_all), sl_C_put_all⟩)
    (c_C_put_all : PySem.W.codeIn K (.ref co_C_put_all) "Lined.put_all" = true)
    (dl_C_put_all : K.lookup co_C_put_all = some ⟨ccl_C_put_all, cdd_C_put_all, .fields vs_C_put_all, ccs_C_put_all⟩)
    (fv_C_put_all : vs_C_put_all[2]? = some (.str file_C_put_all tf_C_put_all))
    (fl_C_put_all : ((l.prog.main.file : Str) == file_C_put_all) = true)
    (zc_C_put_all : K.lookup cc_C_put_all = some ⟨cv_C_put_all, cld_C_put_all, .cell (some (.ref C)), csl_C_put_all⟩)
    (su_C_put_all : PySem.W.ks_superIn K C C "put_all" = some (some (.ref f_CR_put_all)))
    (aE : PySem.W.nsIn K mainGlobals "MakesError" = some (some (.ref CE)))
    (iE : PySem.W.isClsIn K CE = true)
    (yE : PySem.W.typeIn K (.ref CE) = some (.type "type"))
    (eE : PySem.W.subIn K (.ref CE) (.type "BaseException") = some true)
    (aA : PySem.W.nsIn K mainGlobals "Elder" = some (some (.ref CA)))
    (xA : K.lookup CA = some (excClassObj nmA qA CA NA bsA [.ref CE, .type "ValueError", .type "Exception", .type "BaseException", .type "object"] true snA subA abA colA ddA m0A m1A m2A m3A m5A "ValueError.__new__"))
    (saA : PySem.W.findIn K (.ref CA) "__setattr__" = some (some (.builtin "object.__setattr__")))
    (gaA : PySem.W.findIn K (.ref CA) "__getattribute__" = some (some (.builtin "BaseException.__getattribute__")))
    (ggA : PySem.W.findIn K (.ref CA) "__getattr__" = some none)
    (nnA : PySem.W.findIn K (.ref CA) "found" = some none)
    (iiA : PySem.W.findIn K (.ref CA) "__init__" = some (some (.ref fA)))
    (kkA : PySem.W.keepIn K (.ref CA) = true)
    (eeA : PySem.W.subIn K (.ref CA) (.type "BaseException") = some true)
    (veA : PySem.W.subIn K (.ref CA) (.type "ValueError") = some true)
    (tyA : PySem.W.typeIn K (.ref CA) = some (.type "type"))
    (hdA : PySem.W.hasDictIn K CA = true)
    (mmA : PySem.W.mroIn K CA (.ref CA) = some true)
    (suA : PySem.W.ks_superIn K CA CA "__init__" = some (some (.builtin "ValueError.__init__")))
    (llA : K.lookup fA = some ⟨.type "function", odA, .func (PySem.W.ksFn "__init__" "Elder.__init__" (Ge.iA r1A r2A) (Ge.iB "this is not the newest make" kdA p1A p2A p3A p4A p5A p6A q1A q2A q3A q4A) Ge.iS .none .none dcA pmA anA (.ref cdaA) ctA ccA), slA⟩)
    (ciA : PySem.W.codeIn K (.ref cdaA) "Elder.__init__" = true)
    (dlA : K.lookup cdaA = some ⟨cclA, cddA, .fields vsA, ccsA⟩)
    (fvA : vsA[2]? = some (.str fileA tfA))
    (flA : ((l.prog.main.file : Str) == fileA) = true)
    (zcA : K.lookup ccA = some ⟨clA, cldA, .cell (some (.ref CA)), cslA⟩)
    (plA : (p3A.endLine == p5A.line) = true)
    (h1A : PySem.W.findIn K (.ref CA) "__class__" = some (some (.builtin "object.__class__")))
    (h2A : PySem.W.specialIn K (.builtin "object.__class__") "__get__" = some (some (.builtin "getset_descriptor.__get__")))
    (h3A : PySem.W.takesIn K (.builtin "object.__class__") = some true)
    (h4A : PySem.W.mroIn K CA (.type "object") = some true)
    (smA : PySem.W.subIn K (.ref CA) (.ref CE) = some true)
    (aN : PySem.W.nsIn K mainGlobals "NoMake" = some (some (.ref CN)))
    (xN : K.lookup CN = some (excClassObj nmN qN CN NN bsN [.ref CE, .type "ValueError", .type "Exception", .type "BaseException", .type "object"] true snN subN abN colN ddN m0N m1N m2N m3N m5N "ValueError.__new__"))
    (saN : PySem.W.findIn K (.ref CN) "__setattr__" = some (some (.builtin "object.__setattr__")))
    (gaN : PySem.W.findIn K (.ref CN) "__getattribute__" = some (some (.builtin "BaseException.__getattribute__")))
    (ggN : PySem.W.findIn K (.ref CN) "__getattr__" = some none)
    (nnN : PySem.W.findIn K (.ref CN) "found" = some none)
    (iiN : PySem.W.findIn K (.ref CN) "__init__" = some (some (.ref fN)))
    (kkN : PySem.W.keepIn K (.ref CN) = true)
    (eeN : PySem.W.subIn K (.ref CN) (.type "BaseException") = some true)
    (veN : PySem.W.subIn K (.ref CN) (.type "ValueError") = some true)
    (tyN : PySem.W.typeIn K (.ref CN) = some (.type "type"))
    (hdN : PySem.W.hasDictIn K CN = true)
    (mmN : PySem.W.mroIn K CN (.ref CN) = some true)
    (suN : PySem.W.ks_superIn K CN CN "__init__" = some (some (.builtin "ValueError.__init__")))
    (llN : K.lookup fN = some ⟨.type "function", odN, .func (PySem.W.ksFn "__init__" "NoMake.__init__" (Ge.iA r1N r2N) (Ge.iB "this is no make" kdN p1N p2N p3N p4N p5N p6N q1N q2N q3N q4N) Ge.iS .none .none dcN pmN anN (.ref cdaN) ctN ccN), slN⟩)
    (ciN : PySem.W.codeIn K (.ref cdaN) "NoMake.__init__" = true)
    (dlN : K.lookup cdaN = some ⟨cclN, cddN, .fields vsN, ccsN⟩)
    (fvN : vsN[2]? = some (.str fileN tfN))
    (flN : ((l.prog.main.file : Str) == fileN) = true)
    (zcN : K.lookup ccN = some ⟨clN, cldN, .cell (some (.ref CN)), cslN⟩)
    (plN : (p3N.endLine == p5N.line) = true)
    (h1N : PySem.W.findIn K (.ref CN) "__class__" = some (some (.builtin "object.__class__")))
    (h2N : PySem.W.specialIn K (.builtin "object.__class__") "__get__" = some (some (.builtin "getset_descriptor.__get__")))
    (h3N : PySem.W.takesIn K (.builtin "object.__class__") = some true)
    (h4N : PySem.W.mroIn K CN (.type "object") = some true)
    (smN : PySem.W.subIn K (.ref CN) (.ref CE) = some true)
    (aP : PySem.W.nsIn K mainGlobals "NoPlace" = some (some (.ref CP)))
    (xP : K.lookup CP = some (excClassObj nmP qP CP NP bsP [.ref CE, .type "ValueError", .type "Exception", .type "BaseException", .type "object"] true snP subP abP colP ddP m0P m1P m2P m3P m5P "ValueError.__new__"))
    (saP : PySem.W.findIn K (.ref CP) "__setattr__" = some (some (.builtin "object.__setattr__")))
    (gaP : PySem.W.findIn K (.ref CP) "__getattribute__" = some (some (.builtin "BaseException.__getattribute__")))
    (ggP : PySem.W.findIn K (.ref CP) "__getattr__" = some none)
    (nnP : PySem.W.findIn K (.ref CP) "found" = some none)
    (iiP : PySem.W.findIn K (.ref CP) "__init__" = some (some (.ref fP)))
    (kkP : PySem.W.keepIn K (.ref CP) = true)
    (eeP : PySem.W.subIn K (.ref CP) (.type "BaseException") = some true)
    (veP : PySem.W.subIn K (.ref CP) (.type "ValueError") = some true)
    (tyP : PySem.W.typeIn K (.ref CP) = some (.type "type"))
    (hdP : PySem.W.hasDictIn K CP = true)
    (mmP : PySem.W.mroIn K CP (.ref CP) = some true)
    (suP : PySem.W.ks_superIn K CP CP "__init__" = some (some (.builtin "ValueError.__init__")))
    (llP : K.lookup fP = some ⟨.type "function", odP, .func (PySem.W.ksFn "__init__" "NoPlace.__init__" (Ge.iA r1P r2P) (Ge.iB "this is no place" kdP p1P p2P p3P p4P p5P p6P q1P q2P q3P q4P) Ge.iS .none .none dcP pmP anP (.ref cdaP) ctP ccP), slP⟩)
    (ciP : PySem.W.codeIn K (.ref cdaP) "NoPlace.__init__" = true)
    (dlP : K.lookup cdaP = some ⟨cclP, cddP, .fields vsP, ccsP⟩)
    (fvP : vsP[2]? = some (.str fileP tfP))
    (flP : ((l.prog.main.file : Str) == fileP) = true)
    (zcP : K.lookup ccP = some ⟨clP, cldP, .cell (some (.ref CP)), cslP⟩)
    (plP : (p3P.endLine == p5P.line) = true)
    (h1P : PySem.W.findIn K (.ref CP) "__class__" = some (some (.builtin "object.__class__")))
    (h2P : PySem.W.specialIn K (.builtin "object.__class__") "__get__" = some (some (.builtin "getset_descriptor.__get__")))
    (h3P : PySem.W.takesIn K (.builtin "object.__class__") = some true)
    (h4P : PySem.W.mroIn K CP (.type "object") = some true)
    (smP : PySem.W.subIn K (.ref CP) (.ref CE) = some true)
    (aW : PySem.W.nsIn K mainGlobals "NoWorth" = some (some (.ref CW)))
    (xW : K.lookup CW = some (excClassObj nmW qW CW NW bsW [.ref CE, .type "ValueError", .type "Exception", .type "BaseException", .type "object"] true snW subW abW colW ddW m0W m1W m2W m3W m5W "ValueError.__new__"))
    (saW : PySem.W.findIn K (.ref CW) "__setattr__" = some (some (.builtin "object.__setattr__")))
    (gaW : PySem.W.findIn K (.ref CW) "__getattribute__" = some (some (.builtin "BaseException.__getattribute__")))
    (ggW : PySem.W.findIn K (.ref CW) "__getattr__" = some none)
    (nnW : PySem.W.findIn K (.ref CW) "found" = some none)
    (iiW : PySem.W.findIn K (.ref CW) "__init__" = some (some (.ref fW)))
    (kkW : PySem.W.keepIn K (.ref CW) = true)
    (eeW : PySem.W.subIn K (.ref CW) (.type "BaseException") = some true)
    (veW : PySem.W.subIn K (.ref CW) (.type "ValueError") = some true)
    (tyW : PySem.W.typeIn K (.ref CW) = some (.type "type"))
    (hdW : PySem.W.hasDictIn K CW = true)
    (mmW : PySem.W.mroIn K CW (.ref CW) = some true)
    (suW : PySem.W.ks_superIn K CW CW "__init__" = some (some (.builtin "ValueError.__init__")))
    (llW : K.lookup fW = some ⟨.type "function", odW, .func (PySem.W.ksFn "__init__" "NoWorth.__init__" (Ge.iA r1W r2W) (Ge.iB "this is no worth" kdW p1W p2W p3W p4W p5W p6W q1W q2W q3W q4W) Ge.iS .none .none dcW pmW anW (.ref cdaW) ctW ccW), slW⟩)
    (ciW : PySem.W.codeIn K (.ref cdaW) "NoWorth.__init__" = true)
    (dlW : K.lookup cdaW = some ⟨cclW, cddW, .fields vsW, ccsW⟩)
    (fvW : vsW[2]? = some (.str fileW tfW))
    (flW : ((l.prog.main.file : Str) == fileW) = true)
    (zcW : K.lookup ccW = some ⟨clW, cldW, .cell (some (.ref CW)), cslW⟩)
    (plW : (p3W.endLine == p5W.line) = true)
    (h1W : PySem.W.findIn K (.ref CW) "__class__" = some (some (.builtin "object.__class__")))
    (h2W : PySem.W.specialIn K (.builtin "object.__class__") "__get__" = some (some (.builtin "getset_descriptor.__get__")))
    (h3W : PySem.W.takesIn K (.builtin "object.__class__") = some true)
    (h4W : PySem.W.mroIn K CW (.type "object") = some true)
    (smW : PySem.W.subIn K (.ref CW) (.ref CE) = some true)
    (aG : PySem.W.nsIn K mainGlobals "NoChanges" = some (some (.ref CG)))
    (xG : K.lookup CG = some (excClassObj nmG qG CG NG bsG [.ref CE, .type "ValueError", .type "Exception", .type "BaseException", .type "object"] true snG subG abG colG ddG m0G m1G m2G m3G m5G "ValueError.__new__"))
    (saG : PySem.W.findIn K (.ref CG) "__setattr__" = some (some (.builtin "object.__setattr__")))
    (gaG : PySem.W.findIn K (.ref CG) "__getattribute__" = some (some (.builtin "BaseException.__getattribute__")))
    (ggG : PySem.W.findIn K (.ref CG) "__getattr__" = some none)
    (nnG : PySem.W.findIn K (.ref CG) "found" = some none)
    (iiG : PySem.W.findIn K (.ref CG) "__init__" = some (some (.ref fG)))
    (kkG : PySem.W.keepIn K (.ref CG) = true)
    (eeG : PySem.W.subIn K (.ref CG) (.type "BaseException") = some true)
    (veG : PySem.W.subIn K (.ref CG) (.type "ValueError") = some true)
    (tyG : PySem.W.typeIn K (.ref CG) = some (.type "type"))
    (hdG : PySem.W.hasDictIn K CG = true)
    (mmG : PySem.W.mroIn K CG (.ref CG) = some true)
    (suG : PySem.W.ks_superIn K CG CG "__init__" = some (some (.builtin "ValueError.__init__")))
    (llG : K.lookup fG = some ⟨.type "function", odG, .func (PySem.W.ksFn "__init__" "NoChanges.__init__" (Ge.iA r1G r2G) (Ge.iB "these are no changes" kdG p1G p2G p3G p4G p5G p6G q1G q2G q3G q4G) Ge.iS .none .none dcG pmG anG (.ref cdaG) ctG ccG), slG⟩)
    (ciG : PySem.W.codeIn K (.ref cdaG) "NoChanges.__init__" = true)
    (dlG : K.lookup cdaG = some ⟨cclG, cddG, .fields vsG, ccsG⟩)
    (fvG : vsG[2]? = some (.str fileG tfG))
    (flG : ((l.prog.main.file : Str) == fileG) = true)
    (zcG : K.lookup ccG = some ⟨clG, cldG, .cell (some (.ref CG)), cslG⟩)
    (plG : (p3G.endLine == p5G.line) = true)
    (h1G : PySem.W.findIn K (.ref CG) "__class__" = some (some (.builtin "object.__class__")))
    (h2G : PySem.W.specialIn K (.builtin "object.__class__") "__get__" = some (some (.builtin "getset_descriptor.__get__")))
    (h3G : PySem.W.takesIn K (.builtin "object.__class__") = some true)
    (h4G : PySem.W.mroIn K CG (.type "object") = some true)
    (smG : PySem.W.subIn K (.ref CG) (.ref CE) = some true)
    (aT : PySem.W.nsIn K mainGlobals "TooMany" = some (some (.ref CT)))
    (xT : K.lookup CT = some (excClassObj nmT qT CT NT bsT [.ref CE, .type "ValueError", .type "Exception", .type "BaseException", .type "object"] true snT subT abT colT ddT m0T m1T m2T m3T m5T "ValueError.__new__"))
    (saT : PySem.W.findIn K (.ref CT) "__setattr__" = some (some (.builtin "object.__setattr__")))
    (gaT : PySem.W.findIn K (.ref CT) "__getattribute__" = some (some (.builtin "BaseException.__getattribute__")))
    (ggT : PySem.W.findIn K (.ref CT) "__getattr__" = some none)
    (nnT : PySem.W.findIn K (.ref CT) "count" = some none)
    (iiT : PySem.W.findIn K (.ref CT) "__init__" = some (some (.ref fT)))
    (kkT : PySem.W.keepIn K (.ref CT) = true)
    (eeT : PySem.W.subIn K (.ref CT) (.type "BaseException") = some true)
    (veT : PySem.W.subIn K (.ref CT) (.type "ValueError") = some true)
    (tyT : PySem.W.typeIn K (.ref CT) = some (.type "type"))
    (hdT : PySem.W.hasDictIn K CT = true)
    (mmT : PySem.W.mroIn K CT (.ref CT) = some true)
    (suT : PySem.W.ks_superIn K CT CT "__init__" = some (some (.builtin "ValueError.__init__")))
    (llT : K.lookup fT = some ⟨.type "function", odT, .func (PySem.W.ksFn "__init__" "TooMany.__init__" (Gk.iA r1T r2T) (Gk.iB "there would be too many" kdT p1T p2T p3T p4T p5T p6T q1T q2T q3T q4T) Gk.iS .none .none dcT pmT anT (.ref cdaT) ctT ccT), slT⟩)
    (ciT : PySem.W.codeIn K (.ref cdaT) "TooMany.__init__" = true)
    (dlT : K.lookup cdaT = some ⟨cclT, cddT, .fields vsT, ccsT⟩)
    (fvT : vsT[2]? = some (.str fileT tfT))
    (flT : ((l.prog.main.file : Str) == fileT) = true)
    (zcT : K.lookup ccT = some ⟨clT, cldT, .cell (some (.ref CT)), cslT⟩)
    (plT : (p3T.endLine == p5T.line) = true)
    (h1T : PySem.W.findIn K (.ref CT) "__class__" = some (some (.builtin "object.__class__")))
    (h2T : PySem.W.specialIn K (.builtin "object.__class__") "__get__" = some (some (.builtin "getset_descriptor.__get__")))
    (h3T : PySem.W.takesIn K (.builtin "object.__class__") = some true)
    (h4T : PySem.W.mroIn K CT (.type "object") = some true)
    (smT : PySem.W.subIn K (.ref CT) (.ref CE) = some true)
    (aS : PySem.W.nsIn K mainGlobals "NoStretch" = some (some (.ref CS)))
    (xS : K.lookup CS = some (excClassObj nmS qS CS NS bsS [.ref CE, .type "ValueError", .type "Exception", .type "BaseException", .type "object"] true snS subS abS colS ddS m0S m1S m2S m3S m5S "ValueError.__new__"))
    (saS : PySem.W.findIn K (.ref CS) "__setattr__" = some (some (.builtin "object.__setattr__")))
    (gaS : PySem.W.findIn K (.ref CS) "__getattribute__" = some (some (.builtin "BaseException.__getattribute__")))
    (ggS : PySem.W.findIn K (.ref CS) "__getattr__" = some none)
    (nnS : PySem.W.findIn K (.ref CS) "low" = some none)
    (iiS : PySem.W.findIn K (.ref CS) "__init__" = some (some (.ref fS)))
    (kkS : PySem.W.keepIn K (.ref CS) = true)
    (eeS : PySem.W.subIn K (.ref CS) (.type "BaseException") = some true)
    (veS : PySem.W.subIn K (.ref CS) (.type "ValueError") = some true)
    (tyS : PySem.W.typeIn K (.ref CS) = some (.type "type"))
    (hdS : PySem.W.hasDictIn K CS = true)
    (mmS : PySem.W.mroIn K CS (.ref CS) = some true)
    (suS : PySem.W.ks_superIn K CS CS "__init__" = some (some (.builtin "ValueError.__init__")))
    (llS : K.lookup fS = some ⟨.type "function", odS, .func (PySem.W.ksFn "__init__" "NoStretch.__init__" (Gr.iA r1S r2S r3S) (Gr.iB "these two are no stretch" kdS p1S p2S p3S p4S p5S p6S q1S q2S q3S q4S t1S t2S t3S t4S) Gr.iS .none .none dcS pmS anS (.ref cdaS) ctS ccS), slS⟩)
    (ciS : PySem.W.codeIn K (.ref cdaS) "NoStretch.__init__" = true)
    (dlS : K.lookup cdaS = some ⟨cclS, cddS, .fields vsS, ccsS⟩)
    (fvS : vsS[2]? = some (.str fileS tfS))
    (flS : ((l.prog.main.file : Str) == fileS) = true)
    (zcS : K.lookup ccS = some ⟨clS, cldS, .cell (some (.ref CS)), cslS⟩)
    (plS : (p3S.endLine == p5S.line) = true)
    (h1S : PySem.W.findIn K (.ref CS) "__class__" = some (some (.builtin "object.__class__")))
    (h2S : PySem.W.specialIn K (.builtin "object.__class__") "__get__" = some (some (.builtin "getset_descriptor.__get__")))
    (h3S : PySem.W.takesIn K (.builtin "object.__class__") = some true)
    (h4S : PySem.W.mroIn K CS (.type "object") = some true)
    (smS : PySem.W.subIn K (.ref CS) (.ref CE) = some true)
    (noS : PySem.W.findIn K (.ref CS) "high" = some none)
    (ktNA : PySem.W.kitOne K (.ref CN) (.ref CA) = some false)
    (ktPA : PySem.W.kitOne K (.ref CP) (.ref CA) = some false)
    (ktPN : PySem.W.kitOne K (.ref CP) (.ref CN) = some false)
    (ktWA : PySem.W.kitOne K (.ref CW) (.ref CA) = some false)
    (ktWN : PySem.W.kitOne K (.ref CW) (.ref CN) = some false)
    (ktWP : PySem.W.kitOne K (.ref CW) (.ref CP) = some false)
    (ktGA : PySem.W.kitOne K (.ref CG) (.ref CA) = some false)
    (ktGN : PySem.W.kitOne K (.ref CG) (.ref CN) = some false)
    (ktGP : PySem.W.kitOne K (.ref CG) (.ref CP) = some false)
    (ktGW : PySem.W.kitOne K (.ref CG) (.ref CW) = some false)
    (ktTA : PySem.W.kitOne K (.ref CT) (.ref CA) = some false)
    (ktTN : PySem.W.kitOne K (.ref CT) (.ref CN) = some false)
    (ktTP : PySem.W.kitOne K (.ref CT) (.ref CP) = some false)
    (ktTW : PySem.W.kitOne K (.ref CT) (.ref CW) = some false)
    (ktTG : PySem.W.kitOne K (.ref CT) (.ref CG) = some false)
    (ktSA : PySem.W.kitOne K (.ref CS) (.ref CA) = some false)
    (ktSN : PySem.W.kitOne K (.ref CS) (.ref CN) = some false)
    (ktSP : PySem.W.kitOne K (.ref CS) (.ref CP) = some false)
    (ktSW : PySem.W.kitOne K (.ref CS) (.ref CW) = some false)
    (ktSG : PySem.W.kitOne K (.ref CS) (.ref CG) = some false)
    (ktST : PySem.W.kitOne K (.ref CS) (.ref CT) = some false)
    : ∃ fd : FuncData, (∀ (s : Shared) (v : Value), BindsTo s fd ⟨[v], []⟩ [("_law_script", v)]) ∧ ∀ base : Heap, K.In base → base.Ns mainGlobals mg → FnG l.prog w K mg base CX0 27 fa fd ["_law_script"] (spLaw K) := by
  have e := hfa.symm.trans (PySem.W.mg_of X G a18)
  cases e
  have k0 := keep_fn l0
  have y0 := isFn_fn l0
  have d_found_by_halving : DefAt K mg "found_by_halving" s_found_by_halving ["stands", "stand"] := defAt (PySem.W.mg_of X G a0) l0 c0 k0 (fun _ _ _ _ _ _ us hl => match us, hl with | [_, _], _ => rfl)
  have k1 := keep_fn l1
  have y1 := isFn_fn l1
  have d_is_whole : DefAt K mg "is_whole" s_is_whole ["thing", "low", "high"] := defAt (PySem.W.mg_of X G a1) l1 c1 k1 (fun _ _ _ _ _ _ us hl => match us, hl with | [_, _, _], _ => rfl)
  have k2 := keep_fn l2
  have y2 := isFn_fn l2
  have d_is_worth : DefAt K mg "is_worth" s_is_worth ["thing"] := defAt (PySem.W.mg_of X G a2) l2 c2 k2 (fun _ _ _ _ _ _ us hl => match us, hl with | [_], _ => rfl)
  have k3 := keep_fn l3
  have y3 := isFn_fn l3
  have d_is_worths : DefAt K mg "is_worths" s_is_worths ["thing"] := defAt (PySem.W.mg_of X G a3) l3 c3 k3 (fun _ _ _ _ _ _ us hl => match us, hl with | [_], _ => rfl)
  have k4 := keep_fn l4
  have y4 := isFn_fn l4
  have d_is_changes : DefAt K mg "is_changes" s_is_changes ["thing", "size"] := defAt (PySem.W.mg_of X G a4) l4 c4 k4 (fun _ _ _ _ _ _ us hl => match us, hl with | [_, _], _ => rfl)
  have k5 := keep_fn l5
  have y5 := isFn_fn l5
  have d__is_change : DefAt K mg "_is_change" s__is_change ["thing", "size"] := defAt (PySem.W.mg_of X G a5) l5 c5 k5 (fun _ _ _ _ _ _ us hl => match us, hl with | [_, _], _ => rfl)
  have k6 := keep_fn l6
  have y6 := isFn_fn l6
  have d__law_cell_at : DefAt K mg "_law_cell_at" s__law_cell_at ["_law_script", "_law_k"] := defAt (PySem.W.mg_of X G a6) l6 c6 k6 (fun _ _ _ _ _ _ us hl => match us, hl with | [_, _], _ => rfl)
  have k7 := keep_fn l7
  have y7 := isFn_fn l7
  have d__law_box : DefAt K mg "_law_box" s__law_box ["_law_cell"] := defAt (PySem.W.mg_of X G a7) l7 c7 k7 (fun _ _ _ _ _ _ us hl => match us, hl with | [_], _ => rfl)
  have k8 := keep_fn l8
  have y8 := isFn_fn l8
  have d__law_take : DefAt K mg "_law_take" s__law_take ["_law_box_here", "_law_many"] := defAt (PySem.W.mg_of X G a8) l8 c8 k8 (fun _ _ _ _ _ _ us hl => match us, hl with | [_, _], _ => rfl)
  have k9 := keep_fn l9
  have y9 := isFn_fn l9
  have d__law_caught : DefAt K mg "_law_caught" s__law_caught ["_law_e"] := defAt (PySem.W.mg_of X G a9) l9 c9 k9 (fun _ _ _ _ _ _ us hl => match us, hl with | [_], _ => rfl)
  have k10 := keep_fn l10
  have y10 := isFn_fn l10
  have d__law_told : DefAt K mg "_law_told" s__law_told ["_law_lined", "_law_deed"] := defAt (PySem.W.mg_of X G a10) l10 c10 k10 (fun _ _ _ _ _ _ us hl => match us, hl with | [_, _], _ => rfl)
  have k11 := keep_fn l11
  have y11 := isFn_fn l11
  have d__law_seen : DefAt K mg "_law_seen" s__law_seen ["_law_lined", "_law_size"] := defAt (PySem.W.mg_of X G a11) l11 c11 k11 (fun _ _ _ _ _ _ us hl => match us, hl with | [_, _], _ => rfl)
  have k12 := keep_fn l12
  have y12 := isFn_fn l12
  have d__law_bad : DefAt K mg "_law_bad" s__law_bad ["_law_box_here", "_law_elder", "_law_gone", "_law_size"] := defAt (PySem.W.mg_of X G a12) l12 c12 k12 (fun _ _ _ _ _ _ us hl => match us, hl with | [_, _, _, _], _ => rfl)
  have k13 := keep_fn l13
  have y13 := isFn_fn l13
  have d__law_bad_right : DefAt K mg "_law_bad_right" s__law_bad_right ["_law_box_here", "_law_lined", "_law_size"] := defAt (PySem.W.mg_of X G a13) l13 c13 k13 (fun _ _ _ _ _ _ us hl => match us, hl with | [_, _, _], _ => rfl)
  have k14 := keep_fn l14
  have y14 := isFn_fn l14
  have d__law_ask : DefAt K mg "_law_ask" s__law_ask ["_law_rows", "_law_way", "_law_things"] := defAt (PySem.W.mg_of X G a14) l14 c14 k14 (fun _ _ _ _ _ _ us hl => match us, hl with | [_, _, _], _ => rfl)
  have k15 := keep_fn l15
  have y15 := isFn_fn l15
  have d__law_bad_ask : DefAt K mg "_law_bad_ask" s__law_bad_ask ["_law_box_here", "_law_rows", "_law_size"] := defAt (PySem.W.mg_of X G a15) l15 c15 k15 (fun _ _ _ _ _ _ us hl => match us, hl with | [_, _, _], _ => rfl)
  have k16 := keep_fn l16
  have y16 := isFn_fn l16
  have d__law_asks_refused : DefAt K mg "_law_asks_refused" s__law_asks_refused ["_law_box_here", "_law_rows", "_law_size"] := defAt (PySem.W.mg_of X G a16) l16 c16 k16 (fun _ _ _ _ _ _ us hl => match us, hl with | [_, _, _], _ => rfl)
  have k17 := keep_fn l17
  have y17 := isFn_fn l17
  have d__law_full_right : DefAt K mg "_law_full_right" s__law_full_right ["_law_lined", "_law_size"] := defAt (PySem.W.mg_of X G a17) l17 c17 k17 (fun _ _ _ _ _ _ us hl => match us, hl with | [_, _], _ => rfl)
  have k18 := keep_fn l18
  have y18 := isFn_fn l18
  have F_law := fun_mk (st := s_law) l18 c18 k18
  have cl_CL : Cls K CL := ⟨pg_CL, hd_CL, po_CL, sa_CL⟩
  have k_CM_many := keep_fn l_CM_many
  have y_CM_many := isFn_fn l_CM_many
  have F_CM_many := fun_mk (st := s_MakeTree_many) l_CM_many c_CM_many k_CM_many
  have B_CM_many : Binds K _ ["self"] [] := F_CM_many.binds (ps := ["self"]) (fun _ _ _ _ _ _ us hl => match us, hl with | [_], _ => rfl)
  have M_CM_many_CL : MAt K CL "many" "MakeTree.many" s_MakeTree_many ["self"] := ⟨_, _, F_CM_many, ⟨m_CM_many_CL, y_CM_many, k_CM_many⟩, B_CM_many⟩
  have k_CM_need_make := keep_fn l_CM_need_make
  have y_CM_need_make := isFn_fn l_CM_need_make
  have F_CM_need_make := fun_mk (st := s_MakeTree__need_make) l_CM_need_make c_CM_need_make k_CM_need_make
  have B_CM_need_make : Binds K _ ["self", "make"] [] := F_CM_need_make.binds (ps := ["self", "make"]) (fun _ _ _ _ _ _ us hl => match us, hl with | [_, _], _ => rfl)
  have M_CM_need_make_CL : MAt K CL "_need_make" "MakeTree._need_make" s_MakeTree__need_make ["self", "make"] := ⟨_, _, F_CM_need_make, ⟨m_CM_need_make_CL, y_CM_need_make, k_CM_need_make⟩, B_CM_need_make⟩
  have k_CM_own := keep_fn l_CM_own
  have y_CM_own := isFn_fn l_CM_own
  have F_CM_own := fun_mk (st := s_MakeTree_own) l_CM_own c_CM_own k_CM_own
  have B_CM_own : Binds K _ ["self", "make"] [] := F_CM_own.binds (ps := ["self", "make"]) (fun _ _ _ _ _ _ us hl => match us, hl with | [_, _], _ => rfl)
  have M_CM_own_CL : MAt K CL "own" "MakeTree.own" s_MakeTree_own ["self", "make"] := ⟨_, _, F_CM_own, ⟨m_CM_own_CL, y_CM_own, k_CM_own⟩, B_CM_own⟩
  have k_CM_line := keep_fn l_CM_line
  have y_CM_line := isFn_fn l_CM_line
  have F_CM_line := fun_mk (st := s_MakeTree_line) l_CM_line c_CM_line k_CM_line
  have B_CM_line : Binds K _ ["self", "make"] [] := F_CM_line.binds (ps := ["self", "make"]) (fun _ _ _ _ _ _ us hl => match us, hl with | [_, _], _ => rfl)
  have M_CM_line_CL : MAt K CL "line" "MakeTree.line" s_MakeTree_line ["self", "make"] := ⟨_, _, F_CM_line, ⟨m_CM_line_CL, y_CM_line, k_CM_line⟩, B_CM_line⟩
  have k_CM_grow := keep_fn l_CM_grow
  have y_CM_grow := isFn_fn l_CM_grow
  have F_CM_grow := fun_mk (st := s_MakeTree_grow) l_CM_grow c_CM_grow k_CM_grow
  have B_CM_grow : Binds K _ ["self", "make"] [] := F_CM_grow.binds (ps := ["self", "make"]) (fun _ _ _ _ _ _ us hl => match us, hl with | [_, _], _ => rfl)
  have k_CM_init := keep_fn l_CM_init
  have y_CM_init := isFn_fn l_CM_init
  have F_CM_init := fun_mk (st := s_MakeTree___init__) l_CM_init c_CM_init k_CM_init
  have B_CM_init : Binds K _ ["self"] [] := F_CM_init.binds (ps := ["self"]) (fun _ _ _ _ _ _ us hl => match us, hl with | [_], _ => rfl)
  have k_CL_leaps_through := keep_fn l_CL_leaps_through
  have y_CL_leaps_through := isFn_fn l_CL_leaps_through
  have F_CL_leaps_through := fun_mk (st := s_LeapTree__leaps_through) l_CL_leaps_through c_CL_leaps_through k_CL_leaps_through
  have B_CL_leaps_through : Binds K _ ["self", "own"] [] := F_CL_leaps_through.binds (ps := ["self", "own"]) (fun _ _ _ _ _ _ us hl => match us, hl with | [_, _], _ => rfl)
  have M_CL_leaps_through : MAt K CL "_leaps_through" "LeapTree._leaps_through" s_LeapTree__leaps_through ["self", "own"] := ⟨_, _, F_CL_leaps_through, ⟨m_CL_leaps_through, y_CL_leaps_through, k_CL_leaps_through⟩, B_CL_leaps_through⟩
  have k_CL_grow := keep_fn l_CL_grow
  have y_CL_grow := isFn_fn l_CL_grow
  have S_CL_grow : SAt l.prog K CL "grow" "LeapTree.grow" s_LeapTree_grow ["self", "make"] f_CM_grow := ⟨f_CL_grow, cc_CL_grow, co_CL_grow, .type "function", od_CL_grow, dc_CL_grow, pm_CL_grow, an_CL_grow, ct_CL_grow, sl_CL_grow,
    { fn := ⟨.type "function", od_CL_grow, dc_CL_grow, pm_CL_grow, an_CL_grow, ct_CL_grow, sl_CL_grow, l_CL_grow⟩, cl := rfl, code := c_CL_grow, cod := ⟨ccl_CL_grow, cdd_CL_grow, vs_CL_grow, ccs_CL_grow, file_CL_grow, tf_CL_grow, dl_CL_grow, fv_CL_grow, fl_CL_grow⟩, cell := ⟨cv_CL_grow, cld_CL_grow, csl_CL_grow, zc_CL_grow⟩, isD := ⟨ic_CL, by simp [PySem.W.clsIn, x_CL]⟩, sub := mm_CL, sup := su_CL_grow, ty := type_fn l_CM_grow, fg := fnIn_fn l_CM_grow, op := op, zs := zs, htop := htop,
      hm := by decide, hks := by rfl, hkc := by rfl, hself := by rfl, arg := ⟨_, rfl, rfl⟩ }, l_CL_grow, ⟨m_CL_grow, y_CL_grow, k_CL_grow⟩, .all fun us hl => match us, hl with | [_, _], _ => rfl⟩
  have k_CL_init := keep_fn l_CL_init
  have y_CL_init := isFn_fn l_CL_init
  have S_CL_init : SAt l.prog K CL "__init__" "LeapTree.__init__" s_LeapTree___init__ ["self"] f_CM_init := ⟨f_CL_init, cc_CL_init, co_CL_init, .type "function", od_CL_init, dc_CL_init, pm_CL_init, an_CL_init, ct_CL_init, sl_CL_init,
    { fn := ⟨.type "function", od_CL_init, dc_CL_init, pm_CL_init, an_CL_init, ct_CL_init, sl_CL_init, l_CL_init⟩, cl := rfl, code := c_CL_init, cod := ⟨ccl_CL_init, cdd_CL_init, vs_CL_init, ccs_CL_init, file_CL_init, tf_CL_init, dl_CL_init, fv_CL_init, fl_CL_init⟩, cell := ⟨cv_CL_init, cld_CL_init, csl_CL_init, zc_CL_init⟩, isD := ⟨ic_CL, by simp [PySem.W.clsIn, x_CL]⟩, sub := mm_CL, sup := su_CL_init, ty := type_fn l_CM_init, fg := fnIn_fn l_CM_init, op := op, zs := zs, htop := htop,
      hm := by decide, hks := by rfl, hkc := by rfl, hself := by rfl, arg := ⟨_, rfl, rfl⟩ }, l_CL_init, ⟨m_CL_init, y_CL_init, k_CL_init⟩, .all fun us hl => match us, hl with | [_], _ => rfl⟩
  have cl_C : Cls K C := ⟨pg_C, hd_C, po_C, sa_C⟩
  have k_C_init := keep_fn l_C_init
  have y_C_init := isFn_fn l_C_init
  have F_C_init := fun_mk (st := s_Rows___init__) l_C_init c_C_init k_C_init
  have B_C_init : Binds K _ ["self", "worths"] [] := F_C_init.binds (ps := ["self", "worths"]) (fun _ _ _ _ _ _ us hl => match us, hl with | [_, _], _ => rfl)
  have M_C_init : MAt K C "__init__" "Rows.__init__" s_Rows___init__ ["self", "worths"] := ⟨_, _, F_C_init, ⟨m_C_init, y_C_init, k_C_init⟩, B_C_init⟩
  have k_C_size := keep_fn l_C_size
  have y_C_size := isFn_fn l_C_size
  have F_C_size := fun_mk (st := s_Rows_size) l_C_size c_C_size k_C_size
  have B_C_size : Binds K _ ["self"] [] := F_C_size.binds (ps := ["self"]) (fun _ _ _ _ _ _ us hl => match us, hl with | [_], _ => rfl)
  have M_C_size : MAt K C "size" "Rows.size" s_Rows_size ["self"] := ⟨_, _, F_C_size, ⟨m_C_size, y_C_size, k_C_size⟩, B_C_size⟩
  have k_C_many := keep_fn l_C_many
  have y_C_many := isFn_fn l_C_many
  have F_C_many := fun_mk (st := s_Rows_many) l_C_many c_C_many k_C_many
  have B_C_many : Binds K _ ["self"] [] := F_C_many.binds (ps := ["self"]) (fun _ _ _ _ _ _ us hl => match us, hl with | [_], _ => rfl)
  have M_C_many : MAt K C "many" "Rows.many" s_Rows_many ["self"] := ⟨_, _, F_C_many, ⟨m_C_many, y_C_many, k_C_many⟩, B_C_many⟩
  have k_C_makes := keep_fn l_C_makes
  have y_C_makes := isFn_fn l_C_makes
  have F_C_makes := fun_mk (st := s_Rows_makes) l_C_makes c_C_makes k_C_makes
  have B_C_makes : Binds K _ ["self"] [] := F_C_makes.binds (ps := ["self"]) (fun _ _ _ _ _ _ us hl => match us, hl with | [_], _ => rfl)
  have M_C_makes : MAt K C "makes" "Rows.makes" s_Rows_makes ["self"] := ⟨_, _, F_C_makes, ⟨m_C_makes, y_C_makes, k_C_makes⟩, B_C_makes⟩
  have k_C_steps := keep_fn l_C_steps
  have y_C_steps := isFn_fn l_C_steps
  have F_C_steps := fun_mk (st := s_Rows_steps) l_C_steps c_C_steps k_C_steps
  have B_C_steps : Binds K _ ["self"] [] := F_C_steps.binds (ps := ["self"]) (fun _ _ _ _ _ _ us hl => match us, hl with | [_], _ => rfl)
  have M_C_steps : MAt K C "steps" "Rows.steps" s_Rows_steps ["self"] := ⟨_, _, F_C_steps, ⟨m_C_steps, y_C_steps, k_C_steps⟩, B_C_steps⟩
  have k_C_at := keep_fn l_C_at
  have y_C_at := isFn_fn l_C_at
  have F_C_at := fun_mk (st := s_Rows_at) l_C_at c_C_at k_C_at
  have B_C_at : Binds K _ ["self", "make", "place"] [] := F_C_at.binds (ps := ["self", "make", "place"]) (fun _ _ _ _ _ _ us hl => match us, hl with | [_, _, _], _ => rfl)
  have M_C_at : MAt K C "at" "Rows.at" s_Rows_at ["self", "make", "place"] := ⟨_, _, F_C_at, ⟨m_C_at, y_C_at, k_C_at⟩, B_C_at⟩
  have k_C_row := keep_fn l_C_row
  have y_C_row := isFn_fn l_C_row
  have F_C_row := fun_mk (st := s_Rows_row) l_C_row c_C_row k_C_row
  have B_C_row : Binds K _ ["self", "make"] [] := F_C_row.binds (ps := ["self", "make"]) (fun _ _ _ _ _ _ us hl => match us, hl with | [_, _], _ => rfl)
  have M_C_row : MAt K C "row" "Rows.row" s_Rows_row ["self", "make"] := ⟨_, _, F_C_row, ⟨m_C_row, y_C_row, k_C_row⟩, B_C_row⟩
  have k_C_stretch := keep_fn l_C_stretch
  have y_C_stretch := isFn_fn l_C_stretch
  have F_C_stretch := fun_mk (st := s_Rows_stretch) l_C_stretch c_C_stretch k_C_stretch
  have B_C_stretch : Binds K _ ["self", "make", "low", "high"] [] := F_C_stretch.binds (ps := ["self", "make", "low", "high"]) (fun _ _ _ _ _ _ us hl => match us, hl with | [_, _, _, _], _ => rfl)
  have M_C_stretch : MAt K C "stretch" "Rows.stretch" s_Rows_stretch ["self", "make", "low", "high"] := ⟨_, _, F_C_stretch, ⟨m_C_stretch, y_C_stretch, k_C_stretch⟩, B_C_stretch⟩
  have k_C_writer := keep_fn l_C_writer
  have y_C_writer := isFn_fn l_C_writer
  have F_C_writer := fun_mk (st := s_Rows_writer) l_C_writer c_C_writer k_C_writer
  have B_C_writer : Binds K _ ["self", "make", "place"] [] := F_C_writer.binds (ps := ["self", "make", "place"]) (fun _ _ _ _ _ _ us hl => match us, hl with | [_, _, _], _ => rfl)
  have M_C_writer : MAt K C "writer" "Rows.writer" s_Rows_writer ["self", "make", "place"] := ⟨_, _, F_C_writer, ⟨m_C_writer, y_C_writer, k_C_writer⟩, B_C_writer⟩
  have k_C_place_of := keep_fn l_C_place_of
  have y_C_place_of := isFn_fn l_C_place_of
  have F_C_place_of := fun_mk (st := s_Rows_place_of) l_C_place_of c_C_place_of k_C_place_of
  have B_C_place_of : Binds K _ ["self", "make"] [] := F_C_place_of.binds (ps := ["self", "make"]) (fun _ _ _ _ _ _ us hl => match us, hl with | [_, _], _ => rfl)
  have M_C_place_of : MAt K C "place_of" "Rows.place_of" s_Rows_place_of ["self", "make"] := ⟨_, _, F_C_place_of, ⟨m_C_place_of, y_C_place_of, k_C_place_of⟩, B_C_place_of⟩
  have k_C_worths_in := keep_fn l_C_worths_in
  have y_C_worths_in := isFn_fn l_C_worths_in
  have F_C_worths_in := fun_mk (st := s_Rows_worths_in) l_C_worths_in c_C_worths_in k_C_worths_in
  have B_C_worths_in : Binds K _ ["self", "make", "low", "high"] [] := F_C_worths_in.binds (ps := ["self", "make", "low", "high"]) (fun _ _ _ _ _ _ us hl => match us, hl with | [_, _, _, _], _ => rfl)
  have M_C_worths_in : MAt K C "worths_in" "Rows.worths_in" s_Rows_worths_in ["self", "make", "low", "high"] := ⟨_, _, F_C_worths_in, ⟨m_C_worths_in, y_C_worths_in, k_C_worths_in⟩, B_C_worths_in⟩
  have k_C_add_steps := keep_fn l_C_add_steps
  have y_C_add_steps := isFn_fn l_C_add_steps
  have F_C_add_steps := fun_mk (st := s_Rows_add_steps) l_C_add_steps c_C_add_steps k_C_add_steps
  have B_C_add_steps : Binds K _ ["self", "many"] [] := F_C_add_steps.binds (ps := ["self", "many"]) (fun _ _ _ _ _ _ us hl => match us, hl with | [_, _], _ => rfl)
  have M_C_add_steps : MAt K C "add_steps" "Rows.add_steps" s_Rows_add_steps ["self", "many"] := ⟨_, _, F_C_add_steps, ⟨m_C_add_steps, y_C_add_steps, k_C_add_steps⟩, B_C_add_steps⟩
  have k_C_need_make := keep_fn l_C_need_make
  have y_C_need_make := isFn_fn l_C_need_make
  have F_C_need_make := fun_mk (st := s_Rows_need_make) l_C_need_make c_C_need_make k_C_need_make
  have B_C_need_make : Binds K _ ["self", "make"] [] := F_C_need_make.binds (ps := ["self", "make"]) (fun _ _ _ _ _ _ us hl => match us, hl with | [_, _], _ => rfl)
  have M_C_need_make : MAt K C "need_make" "Rows.need_make" s_Rows_need_make ["self", "make"] := ⟨_, _, F_C_need_make, ⟨m_C_need_make, y_C_need_make, k_C_need_make⟩, B_C_need_make⟩
  have k_C_need_place := keep_fn l_C_need_place
  have y_C_need_place := isFn_fn l_C_need_place
  have F_C_need_place := fun_mk (st := s_Rows_need_place) l_C_need_place c_C_need_place k_C_need_place
  have B_C_need_place : Binds K _ ["self", "place"] [] := F_C_need_place.binds (ps := ["self", "place"]) (fun _ _ _ _ _ _ us hl => match us, hl with | [_, _], _ => rfl)
  have M_C_need_place : MAt K C "need_place" "Rows.need_place" s_Rows_need_place ["self", "place"] := ⟨_, _, F_C_need_place, ⟨m_C_need_place, y_C_need_place, k_C_need_place⟩, B_C_need_place⟩
  have k_C_need_stretch := keep_fn l_C_need_stretch
  have y_C_need_stretch := isFn_fn l_C_need_stretch
  have F_C_need_stretch := fun_mk (st := s_Rows_need_stretch) l_C_need_stretch c_C_need_stretch k_C_need_stretch
  have B_C_need_stretch : Binds K _ ["self", "low", "high"] [] := F_C_need_stretch.binds (ps := ["self", "low", "high"]) (fun _ _ _ _ _ _ us hl => match us, hl with | [_, _, _], _ => rfl)
  have M_C_need_stretch : MAt K C "need_stretch" "Rows.need_stretch" s_Rows_need_stretch ["self", "low", "high"] := ⟨_, _, F_C_need_stretch, ⟨m_C_need_stretch, y_C_need_stretch, k_C_need_stretch⟩, B_C_need_stretch⟩
  have k_C_row_need_there := keep_fn l_C_row_need_there
  have y_C_row_need_there := isFn_fn l_C_row_need_there
  have F_C_row_need_there := fun_mk (st := s_Rows__row_need_there) l_C_row_need_there c_C_row_need_there k_C_row_need_there
  have B_C_row_need_there : Binds K _ ["self", "make"] [] := F_C_row_need_there.binds (ps := ["self", "make"]) (fun _ _ _ _ _ _ us hl => match us, hl with | [_, _], _ => rfl)
  have M_C_row_need_there : MAt K C "_row_need_there" "Rows._row_need_there" s_Rows__row_need_there ["self", "make"] := ⟨_, _, F_C_row_need_there, ⟨m_C_row_need_there, y_C_row_need_there, k_C_row_need_there⟩, B_C_row_need_there⟩
  have k_C_up_to_writer := keep_fn l_C_up_to_writer
  have y_C_up_to_writer := isFn_fn l_C_up_to_writer
  have F_C_up_to_writer := fun_mk (st := s_Rows__up_to_writer) l_C_up_to_writer c_C_up_to_writer k_C_up_to_writer
  have B_C_up_to_writer : Binds K _ ["self", "make", "place"] [] := F_C_up_to_writer.binds (ps := ["self", "make", "place"]) (fun _ _ _ _ _ _ us hl => match us, hl with | [_, _, _], _ => rfl)
  have M_C_up_to_writer : MAt K C "_up_to_writer" "Rows._up_to_writer" s_Rows__up_to_writer ["self", "make", "place"] := ⟨_, _, F_C_up_to_writer, ⟨m_C_up_to_writer, y_C_up_to_writer, k_C_up_to_writer⟩, B_C_up_to_writer⟩
  have k_C_row_put := keep_fn l_C_row_put
  have y_C_row_put := isFn_fn l_C_row_put
  have F_C_row_put := fun_mk (st := s_Rows__row_put) l_C_row_put c_C_row_put k_C_row_put
  have B_C_row_put : Binds K _ ["self", "make", "place", "worth"] [] := F_C_row_put.binds (ps := ["self", "make", "place", "worth"]) (fun _ _ _ _ _ _ us hl => match us, hl with | [_, _, _, _], _ => rfl)
  have M_C_row_put : MAt K C "_row_put" "Rows._row_put" s_Rows__row_put ["self", "make", "place", "worth"] := ⟨_, _, F_C_row_put, ⟨m_C_row_put, y_C_row_put, k_C_row_put⟩, B_C_row_put⟩
  have k_C_row_need_room_for := keep_fn l_C_row_need_room_for
  have y_C_row_need_room_for := isFn_fn l_C_row_need_room_for
  have F_C_row_need_room_for := fun_mk (st := s_Rows__row_need_room_for) l_C_row_need_room_for c_C_row_need_room_for k_C_row_need_room_for
  have B_C_row_need_room_for : Binds K _ ["self", "more"] [] := F_C_row_need_room_for.binds (ps := ["self", "more"]) (fun _ _ _ _ _ _ us hl => match us, hl with | [_, _], _ => rfl)
  have M_C_row_need_room_for : MAt K C "_row_need_room_for" "Rows._row_need_room_for" s_Rows__row_need_room_for ["self", "more"] := ⟨_, _, F_C_row_need_room_for, ⟨m_C_row_need_room_for, y_C_row_need_room_for, k_C_row_need_room_for⟩, B_C_row_need_room_for⟩
  have k_C_row_writers := keep_fn l_C_row_writers
  have y_C_row_writers := isFn_fn l_C_row_writers
  have F_C_row_writers := fun_mk (st := s_Rows__row_writers) l_C_row_writers c_C_row_writers k_C_row_writers
  have B_C_row_writers : Binds K _ ["self", "make"] [] := F_C_row_writers.binds (ps := ["self", "make"]) (fun _ _ _ _ _ _ us hl => match us, hl with | [_, _], _ => rfl)
  have M_C_row_writers : MAt K C "_row_writers" "Rows._row_writers" s_Rows__row_writers ["self", "make"] := ⟨_, _, F_C_row_writers, ⟨m_C_row_writers, y_C_row_writers, k_C_row_writers⟩, B_C_row_writers⟩
  have k_C_needed_no_more := keep_fn l_C_needed_no_more
  have y_C_needed_no_more := isFn_fn l_C_needed_no_more
  have F_C_needed_no_more := fun_mk (st := s_Rows__needed_no_more) l_C_needed_no_more c_C_needed_no_more k_C_needed_no_more
  have B_C_needed_no_more : Binds K _ ["self", "make"] [] := F_C_needed_no_more.binds (ps := ["self", "make"]) (fun _ _ _ _ _ _ us hl => match us, hl with | [_, _], _ => rfl)
  have M_C_needed_no_more : MAt K C "_needed_no_more" "Rows._needed_no_more" s_Rows__needed_no_more ["self", "make"] := ⟨_, _, F_C_needed_no_more, ⟨m_C_needed_no_more, y_C_needed_no_more, k_C_needed_no_more⟩, B_C_needed_no_more⟩
  have k_C_begin := keep_fn l_C_begin
  have y_C_begin := isFn_fn l_C_begin
  have F_C_begin := fun_mk (st := s_Lined_begin) l_C_begin c_C_begin k_C_begin
  have B_C_begin : Binds K _ ["self", "worths"] [] := F_C_begin.binds (ps := ["self", "worths"]) (fun _ _ _ _ _ _ us hl => match us, hl with | [_, _], _ => rfl)
  have M_C_begin : MAt K C "begin" "Lined.begin" s_Lined_begin ["self", "worths"] := ⟨_, _, F_C_begin, ⟨m_C_begin, y_C_begin, k_C_begin⟩, B_C_begin⟩
  have k_C_store := keep_fn l_C_store
  have y_C_store := isFn_fn l_C_store
  have F_C_store := fun_mk (st := s_Lined_store) l_C_store c_C_store k_C_store
  have B_C_store : Binds K _ ["self", "make", "number", "place", "worth"] [] := F_C_store.binds (ps := ["self", "make", "number", "place", "worth"]) (fun _ _ _ _ _ _ us hl => match us, hl with | [_, _, _, _, _], _ => rfl)
  have M_C_store : MAt K C "store" "Lined.store" s_Lined_store ["self", "make", "number", "place", "worth"] := ⟨_, _, F_C_store, ⟨m_C_store, y_C_store, k_C_store⟩, B_C_store⟩
  have k_C_freed := keep_fn l_C_freed
  have y_C_freed := isFn_fn l_C_freed
  have F_C_freed := fun_mk (st := s_Lined_freed) l_C_freed c_C_freed k_C_freed
  have B_C_freed : Binds K _ ["self", "make"] [] := F_C_freed.binds (ps := ["self", "make"]) (fun _ _ _ _ _ _ us hl => match us, hl with | [_, _], _ => rfl)
  have M_C_freed : MAt K C "freed" "Lined.freed" s_Lined_freed ["self", "make"] := ⟨_, _, F_C_freed, ⟨m_C_freed, y_C_freed, k_C_freed⟩, B_C_freed⟩
  have k_C_looked := keep_fn l_C_looked
  have y_C_looked := isFn_fn l_C_looked
  have F_C_looked := fun_mk (st := s_Lined_looked) l_C_looked c_C_looked k_C_looked
  have B_C_looked : Binds K _ ["self", "make", "place"] [] := F_C_looked.binds (ps := ["self", "make", "place"]) (fun _ _ _ _ _ _ us hl => match us, hl with | [_, _, _], _ => rfl)
  have M_C_looked : MAt K C "looked" "Lined.looked" s_Lined_looked ["self", "make", "place"] := ⟨_, _, F_C_looked, ⟨m_C_looked, y_C_looked, k_C_looked⟩, B_C_looked⟩
  have k_C_box := keep_fn l_C_box
  have y_C_box := isFn_fn l_C_box
  have F_C_box := fun_mk (st := s_Lined_box) l_C_box c_C_box k_C_box
  have B_C_box : Binds K _ ["self", "place"] [] := F_C_box.binds (ps := ["self", "place"]) (fun _ _ _ _ _ _ us hl => match us, hl with | [_, _], _ => rfl)
  have M_C_box : MAt K C "box" "Lined.box" s_Lined_box ["self", "place"] := ⟨_, _, F_C_box, ⟨m_C_box, y_C_box, k_C_box⟩, B_C_box⟩
  have k_C_need_new := keep_fn l_C_need_new
  have y_C_need_new := isFn_fn l_C_need_new
  have F_C_need_new := fun_mk (st := s_Lined_need_new) l_C_need_new c_C_need_new k_C_need_new
  have B_C_need_new : Binds K _ ["self", "make"] [] := F_C_need_new.binds (ps := ["self", "make"]) (fun _ _ _ _ _ _ us hl => match us, hl with | [_, _], _ => rfl)
  have M_C_need_new : MAt K C "need_new" "Lined.need_new" s_Lined_need_new ["self", "make"] := ⟨_, _, F_C_need_new, ⟨m_C_need_new, y_C_need_new, k_C_need_new⟩, B_C_need_new⟩
  have k_CR_let_go := keep_fn l_CR_let_go
  have y_CR_let_go := isFn_fn l_CR_let_go
  have F_CR_let_go := fun_mk (st := s_Rows_let_go) l_CR_let_go c_CR_let_go k_CR_let_go
  have B_CR_let_go : Binds K _ ["self", "make"] [] := F_CR_let_go.binds (ps := ["self", "make"]) (fun _ _ _ _ _ _ us hl => match us, hl with | [_, _], _ => rfl)
  have k_CR_put := keep_fn l_CR_put
  have y_CR_put := isFn_fn l_CR_put
  have F_CR_put := fun_mk (st := s_Rows_put) l_CR_put c_CR_put k_CR_put
  have B_CR_put : Binds K _ ["self", "make", "place", "worth"] [] := F_CR_put.binds (ps := ["self", "make", "place", "worth"]) (fun _ _ _ _ _ _ us hl => match us, hl with | [_, _, _, _], _ => rfl)
  have k_CR_put_all := keep_fn l_CR_put_all
  have y_CR_put_all := isFn_fn l_CR_put_all
  have F_CR_put_all := fun_mk (st := s_Rows_put_all) l_CR_put_all c_CR_put_all k_CR_put_all
  have B_CR_put_all : Binds K _ ["self", "make", "changes"] [] := F_CR_put_all.binds (ps := ["self", "make", "changes"]) (fun _ _ _ _ _ _ us hl => match us, hl with | [_, _, _], _ => rfl)
  have k_C_let_go := keep_fn l_C_let_go
  have y_C_let_go := isFn_fn l_C_let_go
  have S_C_let_go : SAt l.prog K C "let_go" "Lined.let_go" s_Lined_let_go ["self", "make"] f_CR_let_go := ⟨f_C_let_go, cc_C_let_go, co_C_let_go, .type "function", od_C_let_go, dc_C_let_go, pm_C_let_go, an_C_let_go, ct_C_let_go, sl_C_let_go,
    { fn := ⟨.type "function", od_C_let_go, dc_C_let_go, pm_C_let_go, an_C_let_go, ct_C_let_go, sl_C_let_go, l_C_let_go⟩, cl := rfl, code := c_C_let_go, cod := ⟨ccl_C_let_go, cdd_C_let_go, vs_C_let_go, ccs_C_let_go, file_C_let_go, tf_C_let_go, dl_C_let_go, fv_C_let_go, fl_C_let_go⟩, cell := ⟨cv_C_let_go, cld_C_let_go, csl_C_let_go, zc_C_let_go⟩, isD := ⟨ic_C, by simp [PySem.W.clsIn, x_C]⟩, sub := mm_C, sup := su_C_let_go, ty := type_fn l_CR_let_go, fg := fnIn_fn l_CR_let_go, op := op, zs := zs, htop := htop,
      hm := by decide, hks := by rfl, hkc := by rfl, hself := by rfl, arg := ⟨_, rfl, rfl⟩ }, l_C_let_go, ⟨m_C_let_go, y_C_let_go, k_C_let_go⟩, .all fun us hl => match us, hl with | [_, _], _ => rfl⟩
  have k_C_put := keep_fn l_C_put
  have y_C_put := isFn_fn l_C_put
  have S_C_put : SAt l.prog K C "put" "Lined.put" s_Lined_put ["self", "make", "place", "worth"] f_CR_put := ⟨f_C_put, cc_C_put, co_C_put, .type "function", od_C_put, dc_C_put, pm_C_put, an_C_put, ct_C_put, sl_C_put,
    { fn := ⟨.type "function", od_C_put, dc_C_put, pm_C_put, an_C_put, ct_C_put, sl_C_put, l_C_put⟩, cl := rfl, code := c_C_put, cod := ⟨ccl_C_put, cdd_C_put, vs_C_put, ccs_C_put, file_C_put, tf_C_put, dl_C_put, fv_C_put, fl_C_put⟩, cell := ⟨cv_C_put, cld_C_put, csl_C_put, zc_C_put⟩, isD := ⟨ic_C, by simp [PySem.W.clsIn, x_C]⟩, sub := mm_C, sup := su_C_put, ty := type_fn l_CR_put, fg := fnIn_fn l_CR_put, op := op, zs := zs, htop := htop,
      hm := by decide, hks := by rfl, hkc := by rfl, hself := by rfl, arg := ⟨_, rfl, rfl⟩ }, l_C_put, ⟨m_C_put, y_C_put, k_C_put⟩, .all fun us hl => match us, hl with | [_, _, _, _], _ => rfl⟩
  have k_C_put_all := keep_fn l_C_put_all
  have y_C_put_all := isFn_fn l_C_put_all
  have S_C_put_all : SAt l.prog K C "put_all" "Lined.put_all" s_Lined_put_all ["self", "make", "changes"] f_CR_put_all := ⟨f_C_put_all, cc_C_put_all, co_C_put_all, .type "function", od_C_put_all, dc_C_put_all, pm_C_put_all, an_C_put_all, ct_C_put_all, sl_C_put_all,
    { fn := ⟨.type "function", od_C_put_all, dc_C_put_all, pm_C_put_all, an_C_put_all, ct_C_put_all, sl_C_put_all, l_C_put_all⟩, cl := rfl, code := c_C_put_all, cod := ⟨ccl_C_put_all, cdd_C_put_all, vs_C_put_all, ccs_C_put_all, file_C_put_all, tf_C_put_all, dl_C_put_all, fv_C_put_all, fl_C_put_all⟩, cell := ⟨cv_C_put_all, cld_C_put_all, csl_C_put_all, zc_C_put_all⟩, isD := ⟨ic_C, by simp [PySem.W.clsIn, x_C]⟩, sub := mm_C, sup := su_C_put_all, ty := type_fn l_CR_put_all, fg := fnIn_fn l_CR_put_all, op := op, zs := zs, htop := htop,
      hm := by decide, hks := by rfl, hkc := by rfl, hself := by rfl, arg := ⟨_, rfl, rfl⟩ }, l_C_put_all, ⟨m_C_put_all, y_C_put_all, k_C_put_all⟩, .all fun us hl => match us, hl with | [_, _, _], _ => rfl⟩
  have EA : ErrTxt l.prog K CA fA "Elder.__init__" _ :=
    { cls := ⟨nmA, qA, NA, bsA, _, snA, subA, abA, colA, ddA, m0A, m1A, m2A, m3A, m5A, xA, by rfl⟩, sa := saA, ga := gaA, gg := ggA, noN := nnA, iC := iiA, tC := type_fn llA, kC := kkA, exC := eeA, veC := veA, tyC := tyA, hdC := hdA, sub := mmA, sup := suA, op := op, zs := zs, htop := htop,
      fn := ⟨.type "function", odA, dcA, pmA, anA, cdaA, ccA, ctA, slA, kdA, p1A, p2A, p3A, p4A, p5A, p6A, q1A, q2A, q3A, q4A, r1A, r2A, cclA, clA, cddA, cldA, vsA, ccsA, cslA, fileA, tfA, llA, ciA, dlA, fvA, flA, zcA, plA⟩ }
  have EN : ErrTxt l.prog K CN fN "NoMake.__init__" _ :=
    { cls := ⟨nmN, qN, NN, bsN, _, snN, subN, abN, colN, ddN, m0N, m1N, m2N, m3N, m5N, xN, by rfl⟩, sa := saN, ga := gaN, gg := ggN, noN := nnN, iC := iiN, tC := type_fn llN, kC := kkN, exC := eeN, veC := veN, tyC := tyN, hdC := hdN, sub := mmN, sup := suN, op := op, zs := zs, htop := htop,
      fn := ⟨.type "function", odN, dcN, pmN, anN, cdaN, ccN, ctN, slN, kdN, p1N, p2N, p3N, p4N, p5N, p6N, q1N, q2N, q3N, q4N, r1N, r2N, cclN, clN, cddN, cldN, vsN, ccsN, cslN, fileN, tfN, llN, ciN, dlN, fvN, flN, zcN, plN⟩ }
  have EP : ErrTxt l.prog K CP fP "NoPlace.__init__" _ :=
    { cls := ⟨nmP, qP, NP, bsP, _, snP, subP, abP, colP, ddP, m0P, m1P, m2P, m3P, m5P, xP, by rfl⟩, sa := saP, ga := gaP, gg := ggP, noN := nnP, iC := iiP, tC := type_fn llP, kC := kkP, exC := eeP, veC := veP, tyC := tyP, hdC := hdP, sub := mmP, sup := suP, op := op, zs := zs, htop := htop,
      fn := ⟨.type "function", odP, dcP, pmP, anP, cdaP, ccP, ctP, slP, kdP, p1P, p2P, p3P, p4P, p5P, p6P, q1P, q2P, q3P, q4P, r1P, r2P, cclP, clP, cddP, cldP, vsP, ccsP, cslP, fileP, tfP, llP, ciP, dlP, fvP, flP, zcP, plP⟩ }
  have EW : ErrTxt l.prog K CW fW "NoWorth.__init__" _ :=
    { cls := ⟨nmW, qW, NW, bsW, _, snW, subW, abW, colW, ddW, m0W, m1W, m2W, m3W, m5W, xW, by rfl⟩, sa := saW, ga := gaW, gg := ggW, noN := nnW, iC := iiW, tC := type_fn llW, kC := kkW, exC := eeW, veC := veW, tyC := tyW, hdC := hdW, sub := mmW, sup := suW, op := op, zs := zs, htop := htop,
      fn := ⟨.type "function", odW, dcW, pmW, anW, cdaW, ccW, ctW, slW, kdW, p1W, p2W, p3W, p4W, p5W, p6W, q1W, q2W, q3W, q4W, r1W, r2W, cclW, clW, cddW, cldW, vsW, ccsW, cslW, fileW, tfW, llW, ciW, dlW, fvW, flW, zcW, plW⟩ }
  have EG : ErrTxt l.prog K CG fG "NoChanges.__init__" _ :=
    { cls := ⟨nmG, qG, NG, bsG, _, snG, subG, abG, colG, ddG, m0G, m1G, m2G, m3G, m5G, xG, by rfl⟩, sa := saG, ga := gaG, gg := ggG, noN := nnG, iC := iiG, tC := type_fn llG, kC := kkG, exC := eeG, veC := veG, tyC := tyG, hdC := hdG, sub := mmG, sup := suG, op := op, zs := zs, htop := htop,
      fn := ⟨.type "function", odG, dcG, pmG, anG, cdaG, ccG, ctG, slG, kdG, p1G, p2G, p3G, p4G, p5G, p6G, q1G, q2G, q3G, q4G, r1G, r2G, cclG, clG, cddG, cldG, vsG, ccsG, cslG, fileG, tfG, llG, ciG, dlG, fvG, flG, zcG, plG⟩ }
  have ET : Gk.ErrTxt l.prog K CT fT "TooMany.__init__" _ :=
    { cls := ⟨nmT, qT, NT, bsT, _, snT, subT, abT, colT, ddT, m0T, m1T, m2T, m3T, m5T, xT, by rfl⟩, sa := saT, ga := gaT, gg := ggT, noN := nnT, iC := iiT, tC := type_fn llT, kC := kkT, exC := eeT, veC := veT, tyC := tyT, hdC := hdT, sub := mmT, sup := suT, op := op, zs := zs, htop := htop,
      fn := ⟨.type "function", odT, dcT, pmT, anT, cdaT, ccT, ctT, slT, kdT, p1T, p2T, p3T, p4T, p5T, p6T, q1T, q2T, q3T, q4T, r1T, r2T, cclT, clT, cddT, cldT, vsT, ccsT, cslT, fileT, tfT, llT, ciT, dlT, fvT, flT, zcT, plT⟩ }
  have ES : Gr.ErrTxt2 l.prog K CS fS "NoStretch.__init__" _ :=
    { cls := ⟨nmS, qS, NS, bsS, _, snS, subS, abS, colS, ddS, m0S, m1S, m2S, m3S, m5S, xS, by rfl⟩, sa := saS, ga := gaS, gg := ggS, noN := nnS, noM := noS, iC := iiS, tC := type_fn llS, kC := kkS, exC := eeS, veC := veS, tyC := tyS, hdC := hdS, sub := mmS, sup := suS, op := op, zs := zs, htop := htop,
      fn := ⟨.type "function", odS, dcS, pmS, anS, cdaS, ccS, ctS, slS, kdS, p1S, p2S, p3S, p4S, p5S, p6S, q1S, q2S, q3S, q4S, t1S, t2S, t3S, t4S, r1S, r2S, r3S, cclS, clS, cddS, cldS, vsS, ccsS, cslS, fileS, tfS, llS, ciS, dlS, fvS, flS, zcS, plS⟩ }
  refine ⟨PySem.W.fnOf "law" "law" (defArgs s_law) (defBody s_law) (defScope s_law) .none kV18 dc18 pm18 an18 cd18 ct18, fun s v => .of_eq rfl, fun base _ _ => ?_⟩
  have T : Txt K mg := ⟨PySem.W.mg_none_of X G z_len, PySem.W.mg_none_of X G z_max, PySem.W.mg_none_of X G z_min, PySem.W.mg_none_of X G z_range, PySem.W.mg_none_of X G z_repr, PySem.W.mg_none_of X G z_all, PySem.W.mg_none_of X G z_enumerate, PySem.W.mg_none_of X G z_tuple, PySem.W.mg_none_of X G z_isinstance, PySem.W.mg_none_of X G z_int, PySem.W.mg_none_of X G z_bool, PySem.W.mg_none_of X G z_list, PySem.W.mg_none_of X G z_sum, PySem.W.mg_none_of X G z_zip, PySem.W.mg_none_of X G z_sorted, PySem.W.mg_none_of X G z_reversed, ⟨t_MOST_MAKES, PySem.W.mg_of X G i_MOST_MAKES⟩, ⟨t_MOST_CHANGES, PySem.W.mg_of X G i_MOST_CHANGES⟩, ⟨t_MOST_PLACES, PySem.W.mg_of X G i_MOST_PLACES⟩, ⟨t_MOST_WORTH, PySem.W.mg_of X G i_MOST_WORTH⟩⟩
  have c_cell := ok_cell (P := l.prog) (w := w) (base := base) T d__law_cell_at
  have c_box := ok_box (P := l.prog) (w := w) (base := base) T d__law_box
  have c_take := ok_take (P := l.prog) (w := w) (base := base) T d__law_take
  have c_wh := ok_whI (P := l.prog) (w := w) (base := base) T d_is_whole
  have worth := ok_worth T c_wh d_is_worth
  have worths := ok_worths T worth d_is_worths
  have TC : TreeC K CL := ⟨cl_CL, no_CL__owns, no_CL__depths, no_CL__on, no_CL__leaps⟩
  have tmany := ok_many (P := l.prog) (w := w) (base := base) T TC M_CM_many_CL
  have tneed := ok_need T TC c_wh tmany M_CM_need_make_CL
  have town := ok_own T TC tneed M_CM_own_CL
  have tline := ok_line T TC tneed M_CM_line_CL
  have thr := ok_through (P := l.prog) (w := w) (base := base) T TC M_CL_leaps_through
  have tgrow := okL_grow T TC tmany tneed thr F_CM_grow B_CM_grow S_CL_grow
  obtain ⟨fi, fdi, me, bi, Fi⟩ := okL_init (P := l.prog) (w := w) (base := base) T TC F_CM_init B_CM_init S_CL_init
  have cL := PySem.W.mg_of X G a_CL
  have mkL : Mk K CL fi := ⟨mk_CL, me.at_, me.fn, kp_CL⟩
  have OC : RowC K C := ⟨cl_C, no_C__row_size, no_C__row_tree, no_C__row_places, no_C__row_kept, no_C__row_steps, no_C__boxes⟩
  have begin_ := ok_begin (P := l.prog) (w := w) (base := base) T OC M_C_begin
  have init := (fn_rinit T OC cL mkL bi Fi worths (metMono begin_ (show 1 ≤ 3 by decide)) F_C_init).imp fun _ _ _ _ h => init_imp h
  have size := ok_size (P := l.prog) (w := w) (base := base) (CL := CL) T OC M_C_size
  have many := ok_rmany (P := l.prog) (w := w) (base := base) (CL := CL) T OC M_C_many
  have needmk := ok_needmk T OC c_wh many M_C_need_make
  have needpl := ok_needpl T OC c_wh size M_C_need_place
  have new_ := ok_newL T OC many M_C_need_new
  have room := ok_room T OC many M_C_row_need_room_for
  have addR := ok_addR (P := l.prog) (w := w) (base := base) T OC M_C_add_steps
  have store := ok_store T OC addR M_C_store
  have rput := metImp (ok_rput (kS := 0) T OC tgrow (metMono store (show 2 ≤ 20 by decide)) M_C_row_put) fun _ _ _ _ h => rput_imp h
  have put := ok_put T OC (fn_put T OC worth needmk needpl new_ room rput F_CR_put) B_CR_put S_C_put
  have wrs_ := ok_wrs T OC size tline M_C_row_writers
  have free := ok_free T OC wrs_ M_C_needed_no_more
  have freed := ok_freed T OC free M_C_freed
  have go := ok_go T OC (fn_rgo T OC needmk freed F_CR_let_go) B_CR_let_go S_C_let_go
  have boxA := ok_boxA T OC needpl M_C_box
  have cP := PySem.W.mg_of X G a_C
  have mkP : Mk K C f_C_init := ⟨mk_C, m_C_init, y_C_init, kp_C⟩
  have c_whole := ok_whole (P := l.prog) (w := w) (base := base) T d_is_whole
  have RP : RfT l.prog K mg CA fA CN fN CP fP CS fS CW fW CG fG CT fT CE := { e_Elder := EA, e_NoMake := EN, e_NoPlace := EP, e_NoWorth := EW, e_NoChanges := EG, e_TooMany := ET, e_NoStretch := ES, iA := ⟨h1A, h2A, h3A, h4A⟩, g_Elder := PySem.W.mg_of X G aA, mA := exm_above smA iE yE eE, kAA := kit_self, iN := ⟨h1N, h2N, h3N, h4N⟩, g_NoMake := PySem.W.mg_of X G aN, mN := exm_above smN iE yE eE, kNN := kit_self, iP := ⟨h1P, h2P, h3P, h4P⟩, g_NoPlace := PySem.W.mg_of X G aP, mP := exm_above smP iE yE eE, kPP := kit_self, iW := ⟨h1W, h2W, h3W, h4W⟩, g_NoWorth := PySem.W.mg_of X G aW, mW := exm_above smW iE yE eE, kWW := kit_self, iG := ⟨h1G, h2G, h3G, h4G⟩, g_NoChanges := PySem.W.mg_of X G aG, mG := exm_above smG iE yE eE, kGG := kit_self, iM := ⟨h1T, h2T, h3T, h4T⟩, g_TooMany := PySem.W.mg_of X G aT, mM := exm_above smT iE yE eE, kMM := kit_self, iS := ⟨h1S, h2S, h3S, h4S⟩, g_NoStretch := PySem.W.mg_of X G aS, mS := exm_above smS iE yE eE, kSS := kit_self, kNA := ktNA, kPA := ktPA, kPN := ktPN, kWA := ktWA, kWN := ktWN, kWP := ktWP, kGA := ktGA, kGN := ktGN, kGP := ktGP, kGW := ktGW, kMA := ktTA, kMN := ktTN, kMP := ktTP, kMW := ktTW, kMG := ktTG, kSA := ktSA, kSN := ktSN, kSP := ktSP, kSW := ktSW, kSG := ktSG, kSM := ktST, g_MakesError := PySem.W.mg_of X G aE }
  have half := ok_half (P := l.prog) (w := w) (base := base) T d_found_by_halving
  have needst := ok_needst T OC c_wh size M_C_need_stretch
  have there := ok_there T OC c_wh many M_C_row_need_there
  have upw := ok_upw T OC town M_C_up_to_writer
  have makes := ok_makes (P := l.prog) (w := w) (base := base) (CL := CL) T OC M_C_makes
  have steps_ := ok_steps (P := l.prog) (w := w) (base := base) (CL := CL) T OC M_C_steps
  have addN := ok_add (P := l.prog) (w := w) (base := base) (CL := CL) T OC M_C_add_steps
  have look := ok_look T OC half addN M_C_looked
  have win := ok_win T OC look M_C_worths_in
  have nk := ok_nk T RP OC c_whole many M_C_need_make
  have npb := ok_npB T RP OC c_whole size M_C_need_place
  have nt := ok_nt T RP OC c_whole many M_C_row_need_there
  have nst := ok_ns T RP OC c_whole size M_C_need_stretch
  have x_atK := ok_atK T RP OC nk needpl win M_C_at
  have x_atP := ok_atP T RP OC needmk npb win M_C_at
  have x_rowK := ok_rowK T RP OC nk size win M_C_row
  have x_stK := ok_stK T RP OC nk needst win M_C_stretch
  have x_stS := ok_stS T RP OC needmk nst win M_C_stretch
  have x_wrK := ok_wrK T RP OC nt needpl upw M_C_writer
  have x_wrP := ok_wrP T RP OC there npb upw M_C_writer
  have x_poK := ok_poK T RP OC nt M_C_place_of
  have x_goK := ok_goK OC (fn_goK T RP OC nk freed F_CR_let_go) B_CR_let_go S_C_let_go
  have ct := ok_ct (P := l.prog) (w := w) (base := base) T RP d__law_caught
  have ask := ok_ask (P := l.prog) (w := w) (base := base) T x_atK x_atP x_rowK x_stK x_stS x_goK x_wrK x_wrP x_poK d__law_ask
  have bad := ok_bad (CN := CN) (CP := CP) (CS := CS) T c_take many makes d__law_bad_ask
  have ar_ := ok_ar T RP ct ask bad d__law_asks_refused
  have worthD := ok_worthD T c_whole d_is_worth
  have changeD := ok_changeD T c_whole worthD d__is_change
  have changesD := ok_changesD T changeD d_is_changes
  have newE := ok_newE T RP OC many M_C_need_new
  have roomM := ok_roomM T RP OC many M_C_row_need_room_for
  have x_put := ok_putB OC (fn_putB T RP OC worthD needmk nk needpl npb new_ newE room roomM rput F_CR_put) B_CR_put S_C_put
  have x_all := ok_allB OC (fn_allB T RP OC changesD needmk size new_ newE room roomM rput F_CR_put_all) B_CR_put_all S_C_put_all
  have x_non := ok_allE OC (fn_allE T OC changesD needmk size new_ room rput F_CR_put_all) B_CR_put_all S_C_put_all
  have told := ok_told T RP ct x_put x_all x_non d__law_told
  have seen := ok_seen T steps_ many makes boxA d__law_seen
  have bd := ok_bd (CA := CA) (CN := CN) (CP := CP) (CW := CW) (CG := CG) (CM := CT) T c_take d__law_bad
  have br := ok_br T c_take many makes seen bd told d__law_bad_right
  have ch := ok_ch T c_wh worth d__is_change
  have chs := ok_chs_false T ch d_is_changes
  have putall := ok_putall T OC (fn_putall (tup := false) T OC chs needmk size new_ room rput F_CR_put_all) B_CR_put_all S_C_put_all
  have fr := ok_fr T many makes put seen told d__law_full_right
  exact ok_law T OC F_law cP mkP B_C_init init c_cell c_box c_take many makes put putall go seen told br ar_ fr

/-! ### the head: where things stand, what is looked at -/
namespace Hd
def v_CA (K : PySem.W.Frag) : Addr := He.ga K "Elder"
def v_fA (K : PySem.W.Frag) : Addr := He.ma K (v_CA K) "__init__"
def v_CN (K : PySem.W.Frag) : Addr := He.ga K "NoMake"
def v_fN (K : PySem.W.Frag) : Addr := He.ma K (v_CN K) "__init__"
def v_CP (K : PySem.W.Frag) : Addr := He.ga K "NoPlace"
def v_fP (K : PySem.W.Frag) : Addr := He.ma K (v_CP K) "__init__"
def v_CW (K : PySem.W.Frag) : Addr := He.ga K "NoWorth"
def v_fW (K : PySem.W.Frag) : Addr := He.ma K (v_CW K) "__init__"
def v_CG (K : PySem.W.Frag) : Addr := He.ga K "NoChanges"
def v_fG (K : PySem.W.Frag) : Addr := He.ma K (v_CG K) "__init__"
def v_CT (K : PySem.W.Frag) : Addr := He.ga K "TooMany"
def v_fT (K : PySem.W.Frag) : Addr := He.ma K (v_CT K) "__init__"
def v_CS (K : PySem.W.Frag) : Addr := He.ga K "NoStretch"
def v_fS (K : PySem.W.Frag) : Addr := He.ma K (v_CS K) "__init__"
def v_f0 (K : PySem.W.Frag) : Addr := He.ga K "found_by_halving"
def v_f1 (K : PySem.W.Frag) : Addr := He.ga K "is_whole"
def v_f2 (K : PySem.W.Frag) : Addr := He.ga K "is_worth"
def v_f3 (K : PySem.W.Frag) : Addr := He.ga K "is_worths"
def v_f4 (K : PySem.W.Frag) : Addr := He.ga K "is_changes"
def v_f5 (K : PySem.W.Frag) : Addr := He.ga K "_is_change"
def v_f6 (K : PySem.W.Frag) : Addr := He.ga K "_law_cell_at"
def v_f7 (K : PySem.W.Frag) : Addr := He.ga K "_law_box"
def v_f8 (K : PySem.W.Frag) : Addr := He.ga K "_law_take"
def v_f9 (K : PySem.W.Frag) : Addr := He.ga K "_law_caught"
def v_f10 (K : PySem.W.Frag) : Addr := He.ga K "_law_told"
def v_f11 (K : PySem.W.Frag) : Addr := He.ga K "_law_seen"
def v_f12 (K : PySem.W.Frag) : Addr := He.ga K "_law_bad"
def v_f13 (K : PySem.W.Frag) : Addr := He.ga K "_law_bad_right"
def v_f14 (K : PySem.W.Frag) : Addr := He.ga K "_law_ask"
def v_f15 (K : PySem.W.Frag) : Addr := He.ga K "_law_bad_ask"
def v_f16 (K : PySem.W.Frag) : Addr := He.ga K "_law_asks_refused"
def v_f17 (K : PySem.W.Frag) : Addr := He.ga K "_law_full_right"
def v_f18 (K : PySem.W.Frag) : Addr := He.ga K "law"
def v_CM (K : PySem.W.Frag) : Addr := He.ga K "MakeTree"
def v_CL (K : PySem.W.Frag) : Addr := He.ga K "LeapTree"
def v_C (K : PySem.W.Frag) : Addr := He.ga K "Lined"
def v_CR (K : PySem.W.Frag) : Addr := He.ga K "Rows"
def v_CE (K : PySem.W.Frag) : Addr := He.ga K "MakesError"
def v_f_CM_many (K : PySem.W.Frag) : Addr := He.ma K (v_CL K) "many"
def v_f_CM_need_make (K : PySem.W.Frag) : Addr := He.ma K (v_CL K) "_need_make"
def v_f_CM_own (K : PySem.W.Frag) : Addr := He.ma K (v_CL K) "own"
def v_f_CM_line (K : PySem.W.Frag) : Addr := He.ma K (v_CL K) "line"
def v_f_CM_grow (K : PySem.W.Frag) : Addr := He.ma K (v_CM K) "grow"
def v_f_CM_init (K : PySem.W.Frag) : Addr := He.ma K (v_CM K) "__init__"
def v_f_CL_leaps_through (K : PySem.W.Frag) : Addr := He.ma K (v_CL K) "_leaps_through"
def v_f_CL_grow (K : PySem.W.Frag) : Addr := He.ma K (v_CL K) "grow"
def v_f_CL_init (K : PySem.W.Frag) : Addr := He.ma K (v_CL K) "__init__"
def v_f_C_init (K : PySem.W.Frag) : Addr := He.ma K (v_C K) "__init__"
def v_f_C_size (K : PySem.W.Frag) : Addr := He.ma K (v_C K) "size"
def v_f_C_many (K : PySem.W.Frag) : Addr := He.ma K (v_C K) "many"
def v_f_C_makes (K : PySem.W.Frag) : Addr := He.ma K (v_C K) "makes"
def v_f_C_steps (K : PySem.W.Frag) : Addr := He.ma K (v_C K) "steps"
def v_f_C_at (K : PySem.W.Frag) : Addr := He.ma K (v_C K) "at"
def v_f_C_row (K : PySem.W.Frag) : Addr := He.ma K (v_C K) "row"
def v_f_C_stretch (K : PySem.W.Frag) : Addr := He.ma K (v_C K) "stretch"
def v_f_C_writer (K : PySem.W.Frag) : Addr := He.ma K (v_C K) "writer"
def v_f_C_place_of (K : PySem.W.Frag) : Addr := He.ma K (v_C K) "place_of"
def v_f_C_worths_in (K : PySem.W.Frag) : Addr := He.ma K (v_C K) "worths_in"
def v_f_C_add_steps (K : PySem.W.Frag) : Addr := He.ma K (v_C K) "add_steps"
def v_f_C_need_make (K : PySem.W.Frag) : Addr := He.ma K (v_C K) "need_make"
def v_f_C_need_place (K : PySem.W.Frag) : Addr := He.ma K (v_C K) "need_place"
def v_f_C_need_stretch (K : PySem.W.Frag) : Addr := He.ma K (v_C K) "need_stretch"
def v_f_C_row_need_there (K : PySem.W.Frag) : Addr := He.ma K (v_C K) "_row_need_there"
def v_f_C_up_to_writer (K : PySem.W.Frag) : Addr := He.ma K (v_C K) "_up_to_writer"
def v_f_C_row_put (K : PySem.W.Frag) : Addr := He.ma K (v_C K) "_row_put"
def v_f_C_row_need_room_for (K : PySem.W.Frag) : Addr := He.ma K (v_C K) "_row_need_room_for"
def v_f_C_row_writers (K : PySem.W.Frag) : Addr := He.ma K (v_C K) "_row_writers"
def v_f_C_needed_no_more (K : PySem.W.Frag) : Addr := He.ma K (v_C K) "_needed_no_more"
def v_f_C_begin (K : PySem.W.Frag) : Addr := He.ma K (v_C K) "begin"
def v_f_C_store (K : PySem.W.Frag) : Addr := He.ma K (v_C K) "store"
def v_f_C_freed (K : PySem.W.Frag) : Addr := He.ma K (v_C K) "freed"
def v_f_C_looked (K : PySem.W.Frag) : Addr := He.ma K (v_C K) "looked"
def v_f_C_box (K : PySem.W.Frag) : Addr := He.ma K (v_C K) "box"
def v_f_C_need_new (K : PySem.W.Frag) : Addr := He.ma K (v_C K) "need_new"
def v_f_CR_let_go (K : PySem.W.Frag) : Addr := He.ma K (v_CR K) "let_go"
def v_f_CR_put (K : PySem.W.Frag) : Addr := He.ma K (v_CR K) "put"
def v_f_CR_put_all (K : PySem.W.Frag) : Addr := He.ma K (v_CR K) "put_all"
def v_f_C_let_go (K : PySem.W.Frag) : Addr := He.ma K (v_C K) "let_go"
def v_f_C_put (K : PySem.W.Frag) : Addr := He.ma K (v_C K) "put"
def v_f_C_put_all (K : PySem.W.Frag) : Addr := He.ma K (v_C K) "put_all"
def tests0 (K : PySem.W.Frag) : List Bool := [
  He.eqO (PySem.W.nsIn K mainGlobals "found_by_halving") (some (some (.ref (v_f0 K)))),
  He.eqO (PySem.W.nsIn K mainGlobals "is_whole") (some (some (.ref (v_f1 K)))),
  He.eqO (PySem.W.nsIn K mainGlobals "is_worth") (some (some (.ref (v_f2 K)))),
  He.eqO (PySem.W.nsIn K mainGlobals "is_worths") (some (some (.ref (v_f3 K)))),
  He.eqO (PySem.W.nsIn K mainGlobals "is_changes") (some (some (.ref (v_f4 K)))),
  He.eqO (PySem.W.nsIn K mainGlobals "_is_change") (some (some (.ref (v_f5 K)))),
  He.eqO (PySem.W.nsIn K mainGlobals "_law_cell_at") (some (some (.ref (v_f6 K)))),
  He.eqO (PySem.W.nsIn K mainGlobals "_law_box") (some (some (.ref (v_f7 K)))),
  He.eqO (PySem.W.nsIn K mainGlobals "_law_take") (some (some (.ref (v_f8 K)))),
  He.eqO (PySem.W.nsIn K mainGlobals "_law_caught") (some (some (.ref (v_f9 K)))),
  He.eqO (PySem.W.nsIn K mainGlobals "_law_told") (some (some (.ref (v_f10 K)))),
  He.eqO (PySem.W.nsIn K mainGlobals "_law_seen") (some (some (.ref (v_f11 K)))),
  He.eqO (PySem.W.nsIn K mainGlobals "_law_bad") (some (some (.ref (v_f12 K)))),
  He.eqO (PySem.W.nsIn K mainGlobals "_law_bad_right") (some (some (.ref (v_f13 K)))),
  He.eqO (PySem.W.nsIn K mainGlobals "_law_ask") (some (some (.ref (v_f14 K)))),
  He.eqO (PySem.W.nsIn K mainGlobals "_law_bad_ask") (some (some (.ref (v_f15 K)))),
  He.eqO (PySem.W.nsIn K mainGlobals "_law_asks_refused") (some (some (.ref (v_f16 K)))),
  He.eqO (PySem.W.nsIn K mainGlobals "_law_full_right") (some (some (.ref (v_f17 K)))),
  He.eqO (PySem.W.nsIn K mainGlobals "law") (some (some (.ref (v_f18 K)))),
  He.eqO (PySem.W.nsIn K mainGlobals "len") (some none),
  He.eqO (PySem.W.nsIn K mainGlobals "max") (some none),
  He.eqO (PySem.W.nsIn K mainGlobals "min") (some none),
  He.eqO (PySem.W.nsIn K mainGlobals "range") (some none),
  He.eqO (PySem.W.nsIn K mainGlobals "repr") (some none),
  He.eqO (PySem.W.nsIn K mainGlobals "all") (some none)]
def tests1 (K : PySem.W.Frag) : List Bool := [
  He.eqO (PySem.W.nsIn K mainGlobals "enumerate") (some none),
  He.eqO (PySem.W.nsIn K mainGlobals "tuple") (some none),
  He.eqO (PySem.W.nsIn K mainGlobals "isinstance") (some none),
  He.eqO (PySem.W.nsIn K mainGlobals "int") (some none),
  He.eqO (PySem.W.nsIn K mainGlobals "bool") (some none),
  He.eqO (PySem.W.nsIn K mainGlobals "list") (some none),
  He.eqO (PySem.W.nsIn K mainGlobals "sum") (some none),
  He.eqO (PySem.W.nsIn K mainGlobals "zip") (some none),
  He.eqO (PySem.W.nsIn K mainGlobals "sorted") (some none),
  He.eqO (PySem.W.nsIn K mainGlobals "reversed") (some none),
  He.eqO (PySem.W.nsIn K mainGlobals "MOST_MAKES") (some (some (.int 64 (Gh.tkOf K "MOST_MAKES")))),
  He.eqO (PySem.W.nsIn K mainGlobals "MOST_CHANGES") (some (some (.int 20 (Gh.tkOf K "MOST_CHANGES")))),
  He.eqO (PySem.W.nsIn K mainGlobals "MOST_PLACES") (some (some (.int 16 (Gh.tkOf K "MOST_PLACES")))),
  He.eqO (PySem.W.nsIn K mainGlobals "MOST_WORTH") (some (some (.int (10 ^ 30 - 1) (Gh.tkOf K "MOST_WORTH")))),
  He.eqO (PySem.W.nsIn K mainGlobals "MakeTree") (some (some (.ref (v_CM K)))),
  He.eqO (PySem.W.nsIn K mainGlobals "LeapTree") (some (some (.ref (v_CL K)))),
  PySem.W.plainGet K (v_CL K) Str.empty,
  PySem.W.hasDictIn K (v_CL K),
  PySem.W.plainOver K (v_CL K),
  He.eqO (PySem.W.findIn K (.ref (v_CL K)) "__setattr__") (some (some (.builtin "object.__setattr__"))),
  He.eqO (PySem.W.findIn K (.ref (v_CL K)) "_owns") (some none),
  He.eqO (PySem.W.findIn K (.ref (v_CL K)) "_depths") (some none),
  He.eqO (PySem.W.findIn K (.ref (v_CL K)) "_on") (some none),
  He.eqO (PySem.W.findIn K (.ref (v_CL K)) "_leaps") (some none),
  PySem.W.makesIn K (v_CL K)]
def tests2 (K : PySem.W.Frag) : List Bool := [
  PySem.W.keepIn K (.ref (v_CL K)),
  He.eqO (PySem.W.findIn K (.ref (v_CL K)) "many") (some (some (.ref (v_f_CM_many K)))),
  He.eqO (PySem.W.findIn K (.ref (v_CL K)) "_need_make") (some (some (.ref (v_f_CM_need_make K)))),
  He.eqO (PySem.W.findIn K (.ref (v_CL K)) "own") (some (some (.ref (v_f_CM_own K)))),
  He.eqO (PySem.W.findIn K (.ref (v_CL K)) "line") (some (some (.ref (v_f_CM_line K)))),
  He.eqO (PySem.W.findIn K (.ref (v_CM K)) "grow") (some (some (.ref (v_f_CM_grow K)))),
  He.eqO (PySem.W.findIn K (.ref (v_CM K)) "__init__") (some (some (.ref (v_f_CM_init K)))),
  He.eqO (PySem.W.findIn K (.ref (v_CL K)) "_leaps_through") (some (some (.ref (v_f_CL_leaps_through K)))),
  He.eqO (PySem.W.nsIn K cStatics "thirdparty.any") (some none),
  He.eqO (PySem.W.nsIn K mainGlobals "super") (some none),
  decide (PySem.W.mroIn K (v_CL K) (.ref (v_CL K)) = some true),
  He.eqO (PySem.W.findIn K (.ref (v_CL K)) "grow") (some (some (.ref (v_f_CL_grow K)))),
  He.eqO (PySem.W.ks_superIn K (v_CL K) (v_CL K) "grow") (some (some (.ref (v_f_CM_grow K)))),
  He.eqO (PySem.W.findIn K (.ref (v_CL K)) "__init__") (some (some (.ref (v_f_CL_init K)))),
  He.eqO (PySem.W.ks_superIn K (v_CL K) (v_CL K) "__init__") (some (some (.ref (v_f_CM_init K)))),
  He.eqO (PySem.W.nsIn K mainGlobals "Lined") (some (some (.ref (v_C K)))),
  PySem.W.plainGet K (v_C K) Str.empty,
  PySem.W.hasDictIn K (v_C K),
  PySem.W.plainOver K (v_C K),
  He.eqO (PySem.W.findIn K (.ref (v_C K)) "__setattr__") (some (some (.builtin "object.__setattr__"))),
  He.eqO (PySem.W.findIn K (.ref (v_C K)) "_row_size") (some none),
  He.eqO (PySem.W.findIn K (.ref (v_C K)) "_row_tree") (some none),
  He.eqO (PySem.W.findIn K (.ref (v_C K)) "_row_places") (some none),
  He.eqO (PySem.W.findIn K (.ref (v_C K)) "_row_kept") (some none),
  He.eqO (PySem.W.findIn K (.ref (v_C K)) "_row_steps") (some none)]
def tests3 (K : PySem.W.Frag) : List Bool := [
  He.eqO (PySem.W.findIn K (.ref (v_C K)) "_boxes") (some none),
  PySem.W.makesIn K (v_C K),
  PySem.W.keepIn K (.ref (v_C K)),
  He.eqO (PySem.W.findIn K (.ref (v_C K)) "__init__") (some (some (.ref (v_f_C_init K)))),
  He.eqO (PySem.W.findIn K (.ref (v_C K)) "size") (some (some (.ref (v_f_C_size K)))),
  He.eqO (PySem.W.findIn K (.ref (v_C K)) "many") (some (some (.ref (v_f_C_many K)))),
  He.eqO (PySem.W.findIn K (.ref (v_C K)) "makes") (some (some (.ref (v_f_C_makes K)))),
  He.eqO (PySem.W.findIn K (.ref (v_C K)) "steps") (some (some (.ref (v_f_C_steps K)))),
  He.eqO (PySem.W.findIn K (.ref (v_C K)) "at") (some (some (.ref (v_f_C_at K)))),
  He.eqO (PySem.W.findIn K (.ref (v_C K)) "row") (some (some (.ref (v_f_C_row K)))),
  He.eqO (PySem.W.findIn K (.ref (v_C K)) "stretch") (some (some (.ref (v_f_C_stretch K)))),
  He.eqO (PySem.W.findIn K (.ref (v_C K)) "writer") (some (some (.ref (v_f_C_writer K)))),
  He.eqO (PySem.W.findIn K (.ref (v_C K)) "place_of") (some (some (.ref (v_f_C_place_of K)))),
  He.eqO (PySem.W.findIn K (.ref (v_C K)) "worths_in") (some (some (.ref (v_f_C_worths_in K)))),
  He.eqO (PySem.W.findIn K (.ref (v_C K)) "add_steps") (some (some (.ref (v_f_C_add_steps K)))),
  He.eqO (PySem.W.findIn K (.ref (v_C K)) "need_make") (some (some (.ref (v_f_C_need_make K)))),
  He.eqO (PySem.W.findIn K (.ref (v_C K)) "need_place") (some (some (.ref (v_f_C_need_place K)))),
  He.eqO (PySem.W.findIn K (.ref (v_C K)) "need_stretch") (some (some (.ref (v_f_C_need_stretch K)))),
  He.eqO (PySem.W.findIn K (.ref (v_C K)) "_row_need_there") (some (some (.ref (v_f_C_row_need_there K)))),
  He.eqO (PySem.W.findIn K (.ref (v_C K)) "_up_to_writer") (some (some (.ref (v_f_C_up_to_writer K)))),
  He.eqO (PySem.W.findIn K (.ref (v_C K)) "_row_put") (some (some (.ref (v_f_C_row_put K)))),
  He.eqO (PySem.W.findIn K (.ref (v_C K)) "_row_need_room_for") (some (some (.ref (v_f_C_row_need_room_for K)))),
  He.eqO (PySem.W.findIn K (.ref (v_C K)) "_row_writers") (some (some (.ref (v_f_C_row_writers K)))),
  He.eqO (PySem.W.findIn K (.ref (v_C K)) "_needed_no_more") (some (some (.ref (v_f_C_needed_no_more K)))),
  He.eqO (PySem.W.findIn K (.ref (v_C K)) "begin") (some (some (.ref (v_f_C_begin K))))]
def tests4 (K : PySem.W.Frag) : List Bool := [
  He.eqO (PySem.W.findIn K (.ref (v_C K)) "store") (some (some (.ref (v_f_C_store K)))),
  He.eqO (PySem.W.findIn K (.ref (v_C K)) "freed") (some (some (.ref (v_f_C_freed K)))),
  He.eqO (PySem.W.findIn K (.ref (v_C K)) "looked") (some (some (.ref (v_f_C_looked K)))),
  He.eqO (PySem.W.findIn K (.ref (v_C K)) "box") (some (some (.ref (v_f_C_box K)))),
  He.eqO (PySem.W.findIn K (.ref (v_C K)) "need_new") (some (some (.ref (v_f_C_need_new K)))),
  He.eqO (PySem.W.nsIn K mainGlobals "Rows") (some (some (.ref (v_CR K)))),
  He.eqO (PySem.W.findIn K (.ref (v_CR K)) "let_go") (some (some (.ref (v_f_CR_let_go K)))),
  He.eqO (PySem.W.findIn K (.ref (v_CR K)) "put") (some (some (.ref (v_f_CR_put K)))),
  He.eqO (PySem.W.findIn K (.ref (v_CR K)) "put_all") (some (some (.ref (v_f_CR_put_all K)))),
  decide (PySem.W.mroIn K (v_C K) (.ref (v_C K)) = some true),
  He.eqO (PySem.W.findIn K (.ref (v_C K)) "let_go") (some (some (.ref (v_f_C_let_go K)))),
  He.eqO (PySem.W.ks_superIn K (v_C K) (v_C K) "let_go") (some (some (.ref (v_f_CR_let_go K)))),
  He.eqO (PySem.W.findIn K (.ref (v_C K)) "put") (some (some (.ref (v_f_C_put K)))),
  He.eqO (PySem.W.ks_superIn K (v_C K) (v_C K) "put") (some (some (.ref (v_f_CR_put K)))),
  He.eqO (PySem.W.findIn K (.ref (v_C K)) "put_all") (some (some (.ref (v_f_C_put_all K)))),
  He.eqO (PySem.W.ks_superIn K (v_C K) (v_C K) "put_all") (some (some (.ref (v_f_CR_put_all K)))),
  He.eqO (PySem.W.nsIn K mainGlobals "MakesError") (some (some (.ref (v_CE K)))),
  PySem.W.isClsIn K (v_CE K),
  decide (PySem.W.typeIn K (.ref (v_CE K)) = some (.type "type")),
  decide (PySem.W.subIn K (.ref (v_CE K)) (.type "BaseException") = some true),
  He.eqO (PySem.W.nsIn K mainGlobals "Elder") (some (some (.ref (v_CA K)))),
  He.eqO (PySem.W.findIn K (.ref (v_CA K)) "__setattr__") (some (some (.builtin "object.__setattr__"))),
  He.eqO (PySem.W.findIn K (.ref (v_CA K)) "__getattribute__") (some (some (.builtin "BaseException.__getattribute__"))),
  He.eqO (PySem.W.findIn K (.ref (v_CA K)) "__getattr__") (some none),
  He.eqO (PySem.W.findIn K (.ref (v_CA K)) "found") (some none)]
def tests5 (K : PySem.W.Frag) : List Bool := [
  He.eqO (PySem.W.findIn K (.ref (v_CA K)) "__init__") (some (some (.ref (v_fA K)))),
  PySem.W.keepIn K (.ref (v_CA K)),
  decide (PySem.W.subIn K (.ref (v_CA K)) (.type "BaseException") = some true),
  decide (PySem.W.subIn K (.ref (v_CA K)) (.type "ValueError") = some true),
  decide (PySem.W.typeIn K (.ref (v_CA K)) = some (.type "type")),
  PySem.W.hasDictIn K (v_CA K),
  decide (PySem.W.mroIn K (v_CA K) (.ref (v_CA K)) = some true),
  He.eqO (PySem.W.ks_superIn K (v_CA K) (v_CA K) "__init__") (some (some (.builtin "ValueError.__init__"))),
  He.eqO (PySem.W.findIn K (.ref (v_CA K)) "__class__") (some (some (.builtin "object.__class__"))),
  He.eqO (PySem.W.specialIn K (.builtin "object.__class__") "__get__") (some (some (.builtin "getset_descriptor.__get__"))),
  decide (PySem.W.takesIn K (.builtin "object.__class__") = some true),
  decide (PySem.W.mroIn K (v_CA K) (.type "object") = some true),
  decide (PySem.W.subIn K (.ref (v_CA K)) (.ref (v_CE K)) = some true),
  He.eqO (PySem.W.nsIn K mainGlobals "NoMake") (some (some (.ref (v_CN K)))),
  He.eqO (PySem.W.findIn K (.ref (v_CN K)) "__setattr__") (some (some (.builtin "object.__setattr__"))),
  He.eqO (PySem.W.findIn K (.ref (v_CN K)) "__getattribute__") (some (some (.builtin "BaseException.__getattribute__"))),
  He.eqO (PySem.W.findIn K (.ref (v_CN K)) "__getattr__") (some none),
  He.eqO (PySem.W.findIn K (.ref (v_CN K)) "found") (some none),
  He.eqO (PySem.W.findIn K (.ref (v_CN K)) "__init__") (some (some (.ref (v_fN K)))),
  PySem.W.keepIn K (.ref (v_CN K)),
  decide (PySem.W.subIn K (.ref (v_CN K)) (.type "BaseException") = some true),
  decide (PySem.W.subIn K (.ref (v_CN K)) (.type "ValueError") = some true),
  decide (PySem.W.typeIn K (.ref (v_CN K)) = some (.type "type")),
  PySem.W.hasDictIn K (v_CN K),
  decide (PySem.W.mroIn K (v_CN K) (.ref (v_CN K)) = some true)]
def tests6 (K : PySem.W.Frag) : List Bool := [
  He.eqO (PySem.W.ks_superIn K (v_CN K) (v_CN K) "__init__") (some (some (.builtin "ValueError.__init__"))),
  He.eqO (PySem.W.findIn K (.ref (v_CN K)) "__class__") (some (some (.builtin "object.__class__"))),
  He.eqO (PySem.W.specialIn K (.builtin "object.__class__") "__get__") (some (some (.builtin "getset_descriptor.__get__"))),
  decide (PySem.W.takesIn K (.builtin "object.__class__") = some true),
  decide (PySem.W.mroIn K (v_CN K) (.type "object") = some true),
  decide (PySem.W.subIn K (.ref (v_CN K)) (.ref (v_CE K)) = some true),
  He.eqO (PySem.W.nsIn K mainGlobals "NoPlace") (some (some (.ref (v_CP K)))),
  He.eqO (PySem.W.findIn K (.ref (v_CP K)) "__setattr__") (some (some (.builtin "object.__setattr__"))),
  He.eqO (PySem.W.findIn K (.ref (v_CP K)) "__getattribute__") (some (some (.builtin "BaseException.__getattribute__"))),
  He.eqO (PySem.W.findIn K (.ref (v_CP K)) "__getattr__") (some none),
  He.eqO (PySem.W.findIn K (.ref (v_CP K)) "found") (some none),
  He.eqO (PySem.W.findIn K (.ref (v_CP K)) "__init__") (some (some (.ref (v_fP K)))),
  PySem.W.keepIn K (.ref (v_CP K)),
  decide (PySem.W.subIn K (.ref (v_CP K)) (.type "BaseException") = some true),
  decide (PySem.W.subIn K (.ref (v_CP K)) (.type "ValueError") = some true),
  decide (PySem.W.typeIn K (.ref (v_CP K)) = some (.type "type")),
  PySem.W.hasDictIn K (v_CP K),
  decide (PySem.W.mroIn K (v_CP K) (.ref (v_CP K)) = some true),
  He.eqO (PySem.W.ks_superIn K (v_CP K) (v_CP K) "__init__") (some (some (.builtin "ValueError.__init__"))),
  He.eqO (PySem.W.findIn K (.ref (v_CP K)) "__class__") (some (some (.builtin "object.__class__"))),
  He.eqO (PySem.W.specialIn K (.builtin "object.__class__") "__get__") (some (some (.builtin "getset_descriptor.__get__"))),
  decide (PySem.W.takesIn K (.builtin "object.__class__") = some true),
  decide (PySem.W.mroIn K (v_CP K) (.type "object") = some true),
  decide (PySem.W.subIn K (.ref (v_CP K)) (.ref (v_CE K)) = some true),
  He.eqO (PySem.W.nsIn K mainGlobals "NoWorth") (some (some (.ref (v_CW K))))]
def tests7 (K : PySem.W.Frag) : List Bool := [
  He.eqO (PySem.W.findIn K (.ref (v_CW K)) "__setattr__") (some (some (.builtin "object.__setattr__"))),
  He.eqO (PySem.W.findIn K (.ref (v_CW K)) "__getattribute__") (some (some (.builtin "BaseException.__getattribute__"))),
  He.eqO (PySem.W.findIn K (.ref (v_CW K)) "__getattr__") (some none),
  He.eqO (PySem.W.findIn K (.ref (v_CW K)) "found") (some none),
  He.eqO (PySem.W.findIn K (.ref (v_CW K)) "__init__") (some (some (.ref (v_fW K)))),
  PySem.W.keepIn K (.ref (v_CW K)),
  decide (PySem.W.subIn K (.ref (v_CW K)) (.type "BaseException") = some true),
  decide (PySem.W.subIn K (.ref (v_CW K)) (.type "ValueError") = some true),
  decide (PySem.W.typeIn K (.ref (v_CW K)) = some (.type "type")),
  PySem.W.hasDictIn K (v_CW K),
  decide (PySem.W.mroIn K (v_CW K) (.ref (v_CW K)) = some true),
  He.eqO (PySem.W.ks_superIn K (v_CW K) (v_CW K) "__init__") (some (some (.builtin "ValueError.__init__"))),
  He.eqO (PySem.W.findIn K (.ref (v_CW K)) "__class__") (some (some (.builtin "object.__class__"))),
  He.eqO (PySem.W.specialIn K (.builtin "object.__class__") "__get__") (some (some (.builtin "getset_descriptor.__get__"))),
  decide (PySem.W.takesIn K (.builtin "object.__class__") = some true),
  decide (PySem.W.mroIn K (v_CW K) (.type "object") = some true),
  decide (PySem.W.subIn K (.ref (v_CW K)) (.ref (v_CE K)) = some true),
  He.eqO (PySem.W.nsIn K mainGlobals "NoChanges") (some (some (.ref (v_CG K)))),
  He.eqO (PySem.W.findIn K (.ref (v_CG K)) "__setattr__") (some (some (.builtin "object.__setattr__"))),
  He.eqO (PySem.W.findIn K (.ref (v_CG K)) "__getattribute__") (some (some (.builtin "BaseException.__getattribute__"))),
  He.eqO (PySem.W.findIn K (.ref (v_CG K)) "__getattr__") (some none),
  He.eqO (PySem.W.findIn K (.ref (v_CG K)) "found") (some none),
  He.eqO (PySem.W.findIn K (.ref (v_CG K)) "__init__") (some (some (.ref (v_fG K)))),
  PySem.W.keepIn K (.ref (v_CG K)),
  decide (PySem.W.subIn K (.ref (v_CG K)) (.type "BaseException") = some true)]
def tests8 (K : PySem.W.Frag) : List Bool := [
  decide (PySem.W.subIn K (.ref (v_CG K)) (.type "ValueError") = some true),
  decide (PySem.W.typeIn K (.ref (v_CG K)) = some (.type "type")),
  PySem.W.hasDictIn K (v_CG K),
  decide (PySem.W.mroIn K (v_CG K) (.ref (v_CG K)) = some true),
  He.eqO (PySem.W.ks_superIn K (v_CG K) (v_CG K) "__init__") (some (some (.builtin "ValueError.__init__"))),
  He.eqO (PySem.W.findIn K (.ref (v_CG K)) "__class__") (some (some (.builtin "object.__class__"))),
  He.eqO (PySem.W.specialIn K (.builtin "object.__class__") "__get__") (some (some (.builtin "getset_descriptor.__get__"))),
  decide (PySem.W.takesIn K (.builtin "object.__class__") = some true),
  decide (PySem.W.mroIn K (v_CG K) (.type "object") = some true),
  decide (PySem.W.subIn K (.ref (v_CG K)) (.ref (v_CE K)) = some true),
  He.eqO (PySem.W.nsIn K mainGlobals "TooMany") (some (some (.ref (v_CT K)))),
  He.eqO (PySem.W.findIn K (.ref (v_CT K)) "__setattr__") (some (some (.builtin "object.__setattr__"))),
  He.eqO (PySem.W.findIn K (.ref (v_CT K)) "__getattribute__") (some (some (.builtin "BaseException.__getattribute__"))),
  He.eqO (PySem.W.findIn K (.ref (v_CT K)) "__getattr__") (some none),
  He.eqO (PySem.W.findIn K (.ref (v_CT K)) "count") (some none),
  He.eqO (PySem.W.findIn K (.ref (v_CT K)) "__init__") (some (some (.ref (v_fT K)))),
  PySem.W.keepIn K (.ref (v_CT K)),
  decide (PySem.W.subIn K (.ref (v_CT K)) (.type "BaseException") = some true),
  decide (PySem.W.subIn K (.ref (v_CT K)) (.type "ValueError") = some true),
  decide (PySem.W.typeIn K (.ref (v_CT K)) = some (.type "type")),
  PySem.W.hasDictIn K (v_CT K),
  decide (PySem.W.mroIn K (v_CT K) (.ref (v_CT K)) = some true),
  He.eqO (PySem.W.ks_superIn K (v_CT K) (v_CT K) "__init__") (some (some (.builtin "ValueError.__init__"))),
  He.eqO (PySem.W.findIn K (.ref (v_CT K)) "__class__") (some (some (.builtin "object.__class__"))),
  He.eqO (PySem.W.specialIn K (.builtin "object.__class__") "__get__") (some (some (.builtin "getset_descriptor.__get__")))]
def tests9 (K : PySem.W.Frag) : List Bool := [
  decide (PySem.W.takesIn K (.builtin "object.__class__") = some true),
  decide (PySem.W.mroIn K (v_CT K) (.type "object") = some true),
  decide (PySem.W.subIn K (.ref (v_CT K)) (.ref (v_CE K)) = some true),
  He.eqO (PySem.W.nsIn K mainGlobals "NoStretch") (some (some (.ref (v_CS K)))),
  He.eqO (PySem.W.findIn K (.ref (v_CS K)) "__setattr__") (some (some (.builtin "object.__setattr__"))),
  He.eqO (PySem.W.findIn K (.ref (v_CS K)) "__getattribute__") (some (some (.builtin "BaseException.__getattribute__"))),
  He.eqO (PySem.W.findIn K (.ref (v_CS K)) "__getattr__") (some none),
  He.eqO (PySem.W.findIn K (.ref (v_CS K)) "low") (some none),
  He.eqO (PySem.W.findIn K (.ref (v_CS K)) "__init__") (some (some (.ref (v_fS K)))),
  PySem.W.keepIn K (.ref (v_CS K)),
  decide (PySem.W.subIn K (.ref (v_CS K)) (.type "BaseException") = some true),
  decide (PySem.W.subIn K (.ref (v_CS K)) (.type "ValueError") = some true),
  decide (PySem.W.typeIn K (.ref (v_CS K)) = some (.type "type")),
  PySem.W.hasDictIn K (v_CS K),
  decide (PySem.W.mroIn K (v_CS K) (.ref (v_CS K)) = some true),
  He.eqO (PySem.W.ks_superIn K (v_CS K) (v_CS K) "__init__") (some (some (.builtin "ValueError.__init__"))),
  He.eqO (PySem.W.findIn K (.ref (v_CS K)) "__class__") (some (some (.builtin "object.__class__"))),
  He.eqO (PySem.W.specialIn K (.builtin "object.__class__") "__get__") (some (some (.builtin "getset_descriptor.__get__"))),
  decide (PySem.W.takesIn K (.builtin "object.__class__") = some true),
  decide (PySem.W.mroIn K (v_CS K) (.type "object") = some true),
  decide (PySem.W.subIn K (.ref (v_CS K)) (.ref (v_CE K)) = some true),
  He.eqO (PySem.W.findIn K (.ref (v_CS K)) "high") (some none),
  decide (PySem.W.kitOne K (.ref (v_CN K)) (.ref (v_CA K)) = some false),
  decide (PySem.W.kitOne K (.ref (v_CP K)) (.ref (v_CA K)) = some false),
  decide (PySem.W.kitOne K (.ref (v_CP K)) (.ref (v_CN K)) = some false)]
def tests10 (K : PySem.W.Frag) : List Bool := [
  decide (PySem.W.kitOne K (.ref (v_CW K)) (.ref (v_CA K)) = some false),
  decide (PySem.W.kitOne K (.ref (v_CW K)) (.ref (v_CN K)) = some false),
  decide (PySem.W.kitOne K (.ref (v_CW K)) (.ref (v_CP K)) = some false),
  decide (PySem.W.kitOne K (.ref (v_CG K)) (.ref (v_CA K)) = some false),
  decide (PySem.W.kitOne K (.ref (v_CG K)) (.ref (v_CN K)) = some false),
  decide (PySem.W.kitOne K (.ref (v_CG K)) (.ref (v_CP K)) = some false),
  decide (PySem.W.kitOne K (.ref (v_CG K)) (.ref (v_CW K)) = some false),
  decide (PySem.W.kitOne K (.ref (v_CT K)) (.ref (v_CA K)) = some false),
  decide (PySem.W.kitOne K (.ref (v_CT K)) (.ref (v_CN K)) = some false),
  decide (PySem.W.kitOne K (.ref (v_CT K)) (.ref (v_CP K)) = some false),
  decide (PySem.W.kitOne K (.ref (v_CT K)) (.ref (v_CW K)) = some false),
  decide (PySem.W.kitOne K (.ref (v_CT K)) (.ref (v_CG K)) = some false),
  decide (PySem.W.kitOne K (.ref (v_CS K)) (.ref (v_CA K)) = some false),
  decide (PySem.W.kitOne K (.ref (v_CS K)) (.ref (v_CN K)) = some false),
  decide (PySem.W.kitOne K (.ref (v_CS K)) (.ref (v_CP K)) = some false),
  decide (PySem.W.kitOne K (.ref (v_CS K)) (.ref (v_CW K)) = some false),
  decide (PySem.W.kitOne K (.ref (v_CS K)) (.ref (v_CG K)) = some false),
  decide (PySem.W.kitOne K (.ref (v_CS K)) (.ref (v_CT K)) = some false),
  PySem.W.codeIn K (Gh.cdOf K (v_f0 K)) "found_by_halving",
  PySem.W.codeIn K (Gh.cdOf K (v_f1 K)) "is_whole",
  PySem.W.codeIn K (Gh.cdOf K (v_f2 K)) "is_worth",
  PySem.W.codeIn K (Gh.cdOf K (v_f3 K)) "is_worths",
  PySem.W.codeIn K (Gh.cdOf K (v_f4 K)) "is_changes",
  PySem.W.codeIn K (Gh.cdOf K (v_f5 K)) "_is_change",
  PySem.W.codeIn K (Gh.cdOf K (v_f6 K)) "_law_cell_at"]
def tests11 (K : PySem.W.Frag) : List Bool := [
  PySem.W.codeIn K (Gh.cdOf K (v_f7 K)) "_law_box",
  PySem.W.codeIn K (Gh.cdOf K (v_f8 K)) "_law_take",
  PySem.W.codeIn K (Gh.cdOf K (v_f9 K)) "_law_caught",
  PySem.W.codeIn K (Gh.cdOf K (v_f10 K)) "_law_told",
  PySem.W.codeIn K (Gh.cdOf K (v_f11 K)) "_law_seen",
  PySem.W.codeIn K (Gh.cdOf K (v_f12 K)) "_law_bad",
  PySem.W.codeIn K (Gh.cdOf K (v_f13 K)) "_law_bad_right",
  PySem.W.codeIn K (Gh.cdOf K (v_f14 K)) "_law_ask",
  PySem.W.codeIn K (Gh.cdOf K (v_f15 K)) "_law_bad_ask",
  PySem.W.codeIn K (Gh.cdOf K (v_f16 K)) "_law_asks_refused",
  PySem.W.codeIn K (Gh.cdOf K (v_f17 K)) "_law_full_right",
  PySem.W.codeIn K (Gh.cdOf K (v_f18 K)) "law",
  PySem.W.codeIn K (Gh.cdOf K (v_f_CM_many K)) "MakeTree.many",
  PySem.W.codeIn K (Gh.cdOf K (v_f_CM_need_make K)) "MakeTree._need_make",
  PySem.W.codeIn K (Gh.cdOf K (v_f_CM_own K)) "MakeTree.own",
  PySem.W.codeIn K (Gh.cdOf K (v_f_CM_line K)) "MakeTree.line",
  PySem.W.codeIn K (Gh.cdOf K (v_f_CM_grow K)) "MakeTree.grow",
  PySem.W.codeIn K (Gh.cdOf K (v_f_CM_init K)) "MakeTree.__init__",
  PySem.W.codeIn K (Gh.cdOf K (v_f_CL_leaps_through K)) "LeapTree._leaps_through",
  Gh.clsB K (v_CL K),
  Gh.supB K (v_f_CL_grow K) (v_CL K) (PySem.Challenge.rw_makeskept_k41_elder_ones_refused).prog.main.file "LeapTree.grow",
  Gh.supB K (v_f_CL_init K) (v_CL K) (PySem.Challenge.rw_makeskept_k41_elder_ones_refused).prog.main.file "LeapTree.__init__",
  PySem.W.codeIn K (Gh.cdOf K (v_f_C_init K)) "Rows.__init__",
  PySem.W.codeIn K (Gh.cdOf K (v_f_C_size K)) "Rows.size",
  PySem.W.codeIn K (Gh.cdOf K (v_f_C_many K)) "Rows.many"]
def tests12 (K : PySem.W.Frag) : List Bool := [
  PySem.W.codeIn K (Gh.cdOf K (v_f_C_makes K)) "Rows.makes",
  PySem.W.codeIn K (Gh.cdOf K (v_f_C_steps K)) "Rows.steps",
  PySem.W.codeIn K (Gh.cdOf K (v_f_C_at K)) "Rows.at",
  PySem.W.codeIn K (Gh.cdOf K (v_f_C_row K)) "Rows.row",
  PySem.W.codeIn K (Gh.cdOf K (v_f_C_stretch K)) "Rows.stretch",
  PySem.W.codeIn K (Gh.cdOf K (v_f_C_writer K)) "Rows.writer",
  PySem.W.codeIn K (Gh.cdOf K (v_f_C_place_of K)) "Rows.place_of",
  PySem.W.codeIn K (Gh.cdOf K (v_f_C_worths_in K)) "Rows.worths_in",
  PySem.W.codeIn K (Gh.cdOf K (v_f_C_add_steps K)) "Rows.add_steps",
  PySem.W.codeIn K (Gh.cdOf K (v_f_C_need_make K)) "Rows.need_make",
  PySem.W.codeIn K (Gh.cdOf K (v_f_C_need_place K)) "Rows.need_place",
  PySem.W.codeIn K (Gh.cdOf K (v_f_C_need_stretch K)) "Rows.need_stretch",
  PySem.W.codeIn K (Gh.cdOf K (v_f_C_row_need_there K)) "Rows._row_need_there",
  PySem.W.codeIn K (Gh.cdOf K (v_f_C_up_to_writer K)) "Rows._up_to_writer",
  PySem.W.codeIn K (Gh.cdOf K (v_f_C_row_put K)) "Rows._row_put",
  PySem.W.codeIn K (Gh.cdOf K (v_f_C_row_need_room_for K)) "Rows._row_need_room_for",
  PySem.W.codeIn K (Gh.cdOf K (v_f_C_row_writers K)) "Rows._row_writers",
  PySem.W.codeIn K (Gh.cdOf K (v_f_C_needed_no_more K)) "Rows._needed_no_more",
  PySem.W.codeIn K (Gh.cdOf K (v_f_C_begin K)) "Lined.begin",
  PySem.W.codeIn K (Gh.cdOf K (v_f_C_store K)) "Lined.store",
  PySem.W.codeIn K (Gh.cdOf K (v_f_C_freed K)) "Lined.freed",
  PySem.W.codeIn K (Gh.cdOf K (v_f_C_looked K)) "Lined.looked",
  PySem.W.codeIn K (Gh.cdOf K (v_f_C_box K)) "Lined.box",
  PySem.W.codeIn K (Gh.cdOf K (v_f_C_need_new K)) "Lined.need_new",
  PySem.W.codeIn K (Gh.cdOf K (v_f_CR_let_go K)) "Rows.let_go"]
def tests13 (K : PySem.W.Frag) : List Bool := [
  PySem.W.codeIn K (Gh.cdOf K (v_f_CR_put K)) "Rows.put",
  PySem.W.codeIn K (Gh.cdOf K (v_f_CR_put_all K)) "Rows.put_all",
  Gh.clsB K (v_C K),
  Gh.supB K (v_f_C_let_go K) (v_C K) (PySem.Challenge.rw_makeskept_k41_elder_ones_refused).prog.main.file "Lined.let_go",
  Gh.supB K (v_f_C_put K) (v_C K) (PySem.Challenge.rw_makeskept_k41_elder_ones_refused).prog.main.file "Lined.put",
  Gh.supB K (v_f_C_put_all K) (v_C K) (PySem.Challenge.rw_makeskept_k41_elder_ones_refused).prog.main.file "Lined.put_all",
  Gh.supB K (v_fA K) (v_CA K) (PySem.Challenge.rw_makeskept_k41_elder_ones_refused).prog.main.file "Elder.__init__",
  Gh.excB K (v_CA K) (v_CE K),
  Gh.supB K (v_fN K) (v_CN K) (PySem.Challenge.rw_makeskept_k41_elder_ones_refused).prog.main.file "NoMake.__init__",
  Gh.excB K (v_CN K) (v_CE K),
  Gh.supB K (v_fP K) (v_CP K) (PySem.Challenge.rw_makeskept_k41_elder_ones_refused).prog.main.file "NoPlace.__init__",
  Gh.excB K (v_CP K) (v_CE K),
  Gh.supB K (v_fW K) (v_CW K) (PySem.Challenge.rw_makeskept_k41_elder_ones_refused).prog.main.file "NoWorth.__init__",
  Gh.excB K (v_CW K) (v_CE K),
  Gh.supB K (v_fG K) (v_CG K) (PySem.Challenge.rw_makeskept_k41_elder_ones_refused).prog.main.file "NoChanges.__init__",
  Gh.excB K (v_CG K) (v_CE K),
  Gh.supB K (v_fT K) (v_CT K) (PySem.Challenge.rw_makeskept_k41_elder_ones_refused).prog.main.file "TooMany.__init__",
  Gh.excB K (v_CT K) (v_CE K),
  Gh.supB K (v_fS K) (v_CS K) (PySem.Challenge.rw_makeskept_k41_elder_ones_refused).prog.main.file "NoStretch.__init__",
  Gh.excB K (v_CS K) (v_CE K)]
def fns0 (K : PySem.W.Frag) : List Gh.FnW := [
  Gh.fW K (v_f0 K),
  Gh.fW K (v_f1 K),
  Gh.fW K (v_f2 K),
  Gh.fW K (v_f3 K),
  Gh.fW K (v_f4 K),
  Gh.fW K (v_f5 K),
  Gh.fW K (v_f6 K),
  Gh.fW K (v_f7 K),
  Gh.fW K (v_f8 K),
  Gh.fW K (v_f9 K),
  Gh.fW K (v_f10 K),
  Gh.fW K (v_f11 K),
  Gh.fW K (v_f12 K),
  Gh.fW K (v_f13 K),
  Gh.fW K (v_f14 K),
  Gh.fW K (v_f15 K),
  Gh.fW K (v_f16 K),
  Gh.fW K (v_f17 K),
  Gh.fW K (v_f18 K),
  Gh.fW K (v_f_CM_many K),
  Gh.fW K (v_f_CM_need_make K),
  Gh.fW K (v_f_CM_own K),
  Gh.fW K (v_f_CM_line K),
  Gh.fW K (v_f_CM_grow K),
  Gh.fW K (v_f_CM_init K)]
def vals0 : List Gh.FnW := [
  Gh.fV "found_by_halving" "found_by_halving" s_found_by_halving [],
  Gh.fV "is_whole" "is_whole" s_is_whole [],
  Gh.fV "is_worth" "is_worth" s_is_worth [],
  Gh.fV "is_worths" "is_worths" s_is_worths [],
  Gh.fV "is_changes" "is_changes" s_is_changes [],
  Gh.fV "_is_change" "_is_change" s__is_change [],
  Gh.fV "_law_cell_at" "_law_cell_at" s__law_cell_at [],
  Gh.fV "_law_box" "_law_box" s__law_box [],
  Gh.fV "_law_take" "_law_take" s__law_take [],
  Gh.fV "_law_caught" "_law_caught" s__law_caught [],
  Gh.fV "_law_told" "_law_told" s__law_told [],
  Gh.fV "_law_seen" "_law_seen" s__law_seen [],
  Gh.fV "_law_bad" "_law_bad" s__law_bad [],
  Gh.fV "_law_bad_right" "_law_bad_right" s__law_bad_right [],
  Gh.fV "_law_ask" "_law_ask" s__law_ask [],
  Gh.fV "_law_bad_ask" "_law_bad_ask" s__law_bad_ask [],
  Gh.fV "_law_asks_refused" "_law_asks_refused" s__law_asks_refused [],
  Gh.fV "_law_full_right" "_law_full_right" s__law_full_right [],
  Gh.fV "law" "law" s_law [],
  Gh.fV "many" "MakeTree.many" s_MakeTree_many [],
  Gh.fV "_need_make" "MakeTree._need_make" s_MakeTree__need_make [],
  Gh.fV "own" "MakeTree.own" s_MakeTree_own [],
  Gh.fV "line" "MakeTree.line" s_MakeTree_line [],
  Gh.fV "grow" "MakeTree.grow" s_MakeTree_grow [],
  Gh.fV "__init__" "MakeTree.__init__" s_MakeTree___init__ []]
def fns1 (K : PySem.W.Frag) : List Gh.FnW := [
  Gh.fW K (v_f_CL_leaps_through K),
  Gh.fW K (v_f_CL_grow K),
  Gh.fW K (v_f_CL_init K),
  Gh.fW K (v_f_C_init K),
  Gh.fW K (v_f_C_size K),
  Gh.fW K (v_f_C_many K),
  Gh.fW K (v_f_C_makes K),
  Gh.fW K (v_f_C_steps K),
  Gh.fW K (v_f_C_at K),
  Gh.fW K (v_f_C_row K),
  Gh.fW K (v_f_C_stretch K),
  Gh.fW K (v_f_C_writer K),
  Gh.fW K (v_f_C_place_of K),
  Gh.fW K (v_f_C_worths_in K),
  Gh.fW K (v_f_C_add_steps K),
  Gh.fW K (v_f_C_need_make K),
  Gh.fW K (v_f_C_need_place K),
  Gh.fW K (v_f_C_need_stretch K),
  Gh.fW K (v_f_C_row_need_there K),
  Gh.fW K (v_f_C_up_to_writer K),
  Gh.fW K (v_f_C_row_put K),
  Gh.fW K (v_f_C_row_need_room_for K),
  Gh.fW K (v_f_C_row_writers K),
  Gh.fW K (v_f_C_needed_no_more K),
  Gh.fW K (v_f_C_begin K)]
def vals1 : List Gh.FnW := [
  Gh.fV "_leaps_through" "LeapTree._leaps_through" s_LeapTree__leaps_through [],
  Gh.fV "grow" "LeapTree.grow" s_LeapTree_grow ["__class__"],
  Gh.fV "__init__" "LeapTree.__init__" s_LeapTree___init__ ["__class__"],
  Gh.fV "__init__" "Rows.__init__" s_Rows___init__ [],
  Gh.fV "size" "Rows.size" s_Rows_size [],
  Gh.fV "many" "Rows.many" s_Rows_many [],
  Gh.fV "makes" "Rows.makes" s_Rows_makes [],
  Gh.fV "steps" "Rows.steps" s_Rows_steps [],
  Gh.fV "at" "Rows.at" s_Rows_at [],
  Gh.fV "row" "Rows.row" s_Rows_row [],
  Gh.fV "stretch" "Rows.stretch" s_Rows_stretch [],
  Gh.fV "writer" "Rows.writer" s_Rows_writer [],
  Gh.fV "place_of" "Rows.place_of" s_Rows_place_of [],
  Gh.fV "worths_in" "Rows.worths_in" s_Rows_worths_in [],
  Gh.fV "add_steps" "Rows.add_steps" s_Rows_add_steps [],
  Gh.fV "need_make" "Rows.need_make" s_Rows_need_make [],
  Gh.fV "need_place" "Rows.need_place" s_Rows_need_place [],
  Gh.fV "need_stretch" "Rows.need_stretch" s_Rows_need_stretch [],
  Gh.fV "_row_need_there" "Rows._row_need_there" s_Rows__row_need_there [],
  Gh.fV "_up_to_writer" "Rows._up_to_writer" s_Rows__up_to_writer [],
  Gh.fV "_row_put" "Rows._row_put" s_Rows__row_put [],
  Gh.fV "_row_need_room_for" "Rows._row_need_room_for" s_Rows__row_need_room_for [],
  Gh.fV "_row_writers" "Rows._row_writers" s_Rows__row_writers [],
  Gh.fV "_needed_no_more" "Rows._needed_no_more" s_Rows__needed_no_more [],
  Gh.fV "begin" "Lined.begin" s_Lined_begin []]
def fns2 (K : PySem.W.Frag) : List Gh.FnW := [
  Gh.fW K (v_f_C_store K),
  Gh.fW K (v_f_C_freed K),
  Gh.fW K (v_f_C_looked K),
  Gh.fW K (v_f_C_box K),
  Gh.fW K (v_f_C_need_new K),
  Gh.fW K (v_f_CR_let_go K),
  Gh.fW K (v_f_CR_put K),
  Gh.fW K (v_f_CR_put_all K),
  Gh.fW K (v_f_C_let_go K),
  Gh.fW K (v_f_C_put K),
  Gh.fW K (v_f_C_put_all K),
  Gh.fW K (v_fA K),
  Gh.fW K (v_fN K),
  Gh.fW K (v_fP K),
  Gh.fW K (v_fW K),
  Gh.fW K (v_fG K),
  Gh.fW K (v_fT K),
  Gh.fW K (v_fS K)]
def vals2 : List Gh.FnW := [
  Gh.fV "store" "Lined.store" s_Lined_store [],
  Gh.fV "freed" "Lined.freed" s_Lined_freed [],
  Gh.fV "looked" "Lined.looked" s_Lined_looked [],
  Gh.fV "box" "Lined.box" s_Lined_box [],
  Gh.fV "need_new" "Lined.need_new" s_Lined_need_new [],
  Gh.fV "let_go" "Rows.let_go" s_Rows_let_go [],
  Gh.fV "put" "Rows.put" s_Rows_put [],
  Gh.fV "put_all" "Rows.put_all" s_Rows_put_all [],
  Gh.fV "let_go" "Lined.let_go" s_Lined_let_go ["__class__"],
  Gh.fV "put" "Lined.put" s_Lined_put ["__class__"],
  Gh.fV "put_all" "Lined.put_all" s_Lined_put_all ["__class__"],
  Gh.fV "__init__" "Elder.__init__" s_Elder___init__ ["__class__"],
  Gh.fV "__init__" "NoMake.__init__" s_NoMake___init__ ["__class__"],
  Gh.fV "__init__" "NoPlace.__init__" s_NoPlace___init__ ["__class__"],
  Gh.fV "__init__" "NoWorth.__init__" s_NoWorth___init__ ["__class__"],
  Gh.fV "__init__" "NoChanges.__init__" s_NoChanges___init__ ["__class__"],
  Gh.fV "__init__" "TooMany.__init__" s_TooMany___init__ ["__class__"],
  Gh.fV "__init__" "NoStretch.__init__" s_NoStretch___init__ ["__class__"]]
abbrev Al : Type := List Bool × List (List Gh.FnW)
def obs (K : PySem.W.Frag) : Al := ([(tests0 K).all id, (tests1 K).all id, (tests2 K).all id, (tests3 K).all id, (tests4 K).all id, (tests5 K).all id, (tests6 K).all id, (tests7 K).all id, (tests8 K).all id, (tests9 K).all id, (tests10 K).all id, (tests11 K).all id, (tests12 K).all id, (tests13 K).all id], [fns0 K, fns1 K, fns2 K])
def val : Al := ([true, true, true, true, true, true, true, true, true, true, true, true, true, true], [vals0, vals1, vals2])
def as__0 : List Addr := [0, 1, 2, 3, 4, 5, 6, 7, 8, 9, 10, 11, 12, 13, 14, 15, 16, 17, 18, 19, 20, 21, 22, 23, 24, 25, 26, 27, 28, 29]
def as__1 : List Addr := [36, 37, 38, 39, 42, 45, 50, 51, 52, 53, 54, 55, 56, 57, 58, 59, 60, 63, 66, 71, 72, 73, 74, 75, 76, 77, 78, 79, 80, 81]
def as__2 : List Addr := [84, 87, 92, 93, 94, 95, 96, 97, 98, 99, 100, 101, 102, 105, 108, 113, 114, 115, 116, 117, 118, 119, 120, 121, 122, 123, 126, 129, 134, 135]
def as__3 : List Addr := [136, 137, 138, 139, 140, 141, 142, 143, 144, 147, 150, 155, 156, 157, 158, 159, 160, 161, 162, 163, 164, 165, 168, 171, 176, 177, 178, 179, 180, 181]
def as__4 : List Addr := [182, 183, 184, 185, 186, 189, 192, 197, 198, 199, 200, 201, 202, 203, 204, 205, 206, 207, 210, 213, 218, 219, 220, 221, 222, 223, 224, 225, 226, 227]
def as__5 : List Addr := [228, 231, 234, 239, 240, 241, 242, 243, 244, 245, 246, 247, 248, 249, 252, 253, 254, 255, 256, 257, 258, 259, 260, 261, 262, 263, 264, 265, 266, 267]
def as__6 : List Addr := [268, 269, 270, 271, 272, 273, 274, 275, 276, 277, 278, 279, 280, 281, 282, 290, 291, 292, 293, 294, 295, 296, 297, 298, 299, 300, 301, 302, 303, 304]
def as__7 : List Addr := [305, 306, 307, 308, 309, 310, 311, 312, 313, 314, 315, 316, 317, 318, 319, 320, 321, 322, 323, 324, 325, 326, 327, 328, 329, 330, 331, 332, 333, 334]
def as__8 : List Addr := [335, 336, 337, 338, 339, 340, 341, 342, 343, 344, 345, 346, 347, 348, 349, 350, 351, 352, 353, 354, 355, 356, 357, 358, 359, 360, 361, 362, 363, 364]
def as__9 : List Addr := [365, 366, 367, 368, 369, 370, 371, 372, 373, 374, 375, 376, 377, 378, 379, 380, 381, 382, 383, 384, 385, 386, 387, 388, 389, 390, 391, 392, 393, 394]
def as__10 : List Addr := [395, 396, 397, 398, 399, 402, 405, 410, 411, 412, 413, 414, 415, 416, 417, 418, 419, 420, 421, 422, 423, 424, 425, 426, 427, 428, 429, 430, 431, 432]
def as__11 : List Addr := [433, 434, 435, 436, 437, 438, 439, 440, 441, 442, 443, 444, 445, 446, 447, 448, 449, 450, 451, 452, 453, 454, 455, 456, 466, 467, 468, 469, 470, 471]
def as__12 : List Addr := [472, 473, 474, 475, 476, 477, 478, 479, 480, 481, 482, 483, 484, 485, 486, 487, 488, 489, 490, 491, 492, 493, 494, 495, 496, 497, 498, 499, 500, 501]
def as__13 : List Addr := [502, 503, 504, 505, 506, 507, 508, 509, 510, 511, 512, 513, 514, 515, 516, 517, 518, 519, 520, 521, 522, 523, 524, 525, 526, 527, 528, 529, 530, 531]
def as__14 : List Addr := [532, 533, 534, 535, 536, 537, 538, 539, 540, 541, 542, 543, 544, 545, 546, 547, 548, 549, 550, 551, 552, 553, 554, 555, 556, 557, 558, 559, 560, 561]
def as__15 : List Addr := [562, 563, 564, 565, 566, 567, 568, 569, 570, 571, 572, 573, 574, 575, 576, 577, 578, 579, 580, 581, 582, 583, 584, 585, 586, 587, 588, 589, 590, 591]
def as__16 : List Addr := [592, 593, 594, 595, 596, 597, 598, 599, 600, 601, 602, 603, 604, 605, 606, 607, 608, 609, 610, 611, 612, 613, 614, 615, 616, 617, 618, 619, 620, 621]
def as__17 : List Addr := [622, 623, 624, 625, 626, 627, 628, 629, 630, 631, 632, 633, 634, 635, 636, 637, 638, 639, 640, 641, 642, 643, 644, 645, 646, 647, 648, 649, 650, 651]
def as__18 : List Addr := [652, 653, 654, 655, 656, 657, 658, 659, 660, 661, 662, 663, 664, 665, 666, 667, 668, 669, 670, 671, 672, 673, 674, 675, 676, 677, 678, 679, 680, 681]
def as__19 : List Addr := [682, 683, 684, 685, 686, 687, 688, 689, 690, 691, 692, 693, 694, 695, 696, 697, 698, 699, 700, 701, 702, 703, 704, 707, 710, 715, 716, 717, 718, 719]
def as__20 : List Addr := [720, 721, 722, 723, 724, 725, 726, 727, 728, 729, 730, 731, 732, 733, 734, 735, 736, 737, 738, 739, 740, 741, 742, 743, 744, 745, 746, 747, 748, 749]
def as__21 : List Addr := [750, 751, 752, 753, 754, 755, 756, 757, 758, 759, 760, 761, 762, 763, 764, 765, 766, 767, 768, 769, 770, 771, 772, 773, 774, 775, 776, 777, 778, 779]
def as__22 : List Addr := [780, 781, 782, 783, 784, 785, 786, 787, 788, 789, 790, 791, 792, 793, 794, 797, 798, 799, 800, 801, 802, 803, 804, 805, 806, 807, 808, 809, 810, 811]
def as__23 : List Addr := [812, 813, 814, 815, 816, 817, 818, 819, 820, 821, 822, 823, 824, 825, 826, 827, 828, 829, 830, 831, 832, 833, 834, 835, 836, 837, 838, 839, 840, 841]
def as__24 : List Addr := [842, 843, 844, 845, 846, 847, 848, 849, 850, 851, 852, 853, 854, 855, 856, 857, 858, 859, 860, 861, 862, 863, 864, 865, 866, 867, 868, 869, 870, 871]
def as__25 : List Addr := [872, 873, 874, 875, 876, 877, 878, 879]
def as_ : List Addr := as__0 ++ as__1 ++ as__2 ++ as__3 ++ as__4 ++ as__5 ++ as__6 ++ as__7 ++ as__8 ++ as__9 ++ as__10 ++ as__11 ++ as__12 ++ as__13 ++ as__14 ++ as__15 ++ as__16 ++ as__17 ++ as__18 ++ as__19 ++ as__20 ++ as__21 ++ as__22 ++ as__23 ++ as__24 ++ as__25
def names_0 : List Str := ["_wall", "found_by_halving", "MakesError", "NoRow", "NoWorth", "NoPlace", "NoStretch", "NoMake", "NoNumber", "NoChanges", "TooMany", "Alone", "Elder", "MOST_WORTH", "MOST_PLACES", "MOST_CHANGES", "is_whole", "is_worth", "is_worths", "is_changes", "_is_change", "MOST_MAKES", "MakeTree", "LeapTree", "Rows", "Lined", "_law_cell_at", "_law_box", "_law_take", "_law_caught"]
def names_1 : List Str := ["_law_told", "_law_seen", "_law_bad", "_law_bad_right", "_law_ask", "_law_bad_ask", "_law_asks_refused", "_law_full_right"]
def names : List Str := names_0 ++ names_1
abbrev R : PySem.W.OpenRow := PySem.W.OpenLaw.row PySem.Challenge.rw_makeskept_k41_elder_ones_refused
set_option maxHeartbeats 0 in
theorem run (w : World) : HandSHeadRun.RunEq R (PySem.W.view R.prog [46]) (Gh.hook as_ obs val) (Gh.ob as_ obs) 6580 names w := by
  intro os
  kernel_rfl
theorem all_c {w : World} {K : PySem.W.Frag} {h : Heap} {mg : Str → Option Value} {fa : Addr} (X : K.In h) (G : h.Ns mainGlobals mg) (hfa : mg "law" = some (.ref fa)) (c : obs K = val)
    : ∃ fd : FuncData, (∀ (s : Shared) (v : Value), BindsTo s fd ⟨[v], []⟩ [("_law_script", v)]) ∧ ∀ base : Heap, K.In base → base.Ns mainGlobals mg → Gd.FnG (PySem.Challenge.rw_makeskept_k41_elder_ones_refused).prog w K mg base CX0 27 fa fd ["_law_script"] (spLaw K) := by
  have h1 := congrArg (fun z : Al => z.1) c
  have h2 := congrArg (fun z : Al => z.2) c
  have ht0 : (tests0 K).all id = true := Gh.at_ h1 0 rfl rfl
  have ht1 : (tests1 K).all id = true := Gh.at_ h1 1 rfl rfl
  have ht2 : (tests2 K).all id = true := Gh.at_ h1 2 rfl rfl
  have ht3 : (tests3 K).all id = true := Gh.at_ h1 3 rfl rfl
  have ht4 : (tests4 K).all id = true := Gh.at_ h1 4 rfl rfl
  have ht5 : (tests5 K).all id = true := Gh.at_ h1 5 rfl rfl
  have ht6 : (tests6 K).all id = true := Gh.at_ h1 6 rfl rfl
  have ht7 : (tests7 K).all id = true := Gh.at_ h1 7 rfl rfl
  have ht8 : (tests8 K).all id = true := Gh.at_ h1 8 rfl rfl
  have ht9 : (tests9 K).all id = true := Gh.at_ h1 9 rfl rfl
  have ht10 : (tests10 K).all id = true := Gh.at_ h1 10 rfl rfl
  have ht11 : (tests11 K).all id = true := Gh.at_ h1 11 rfl rfl
  have ht12 : (tests12 K).all id = true := Gh.at_ h1 12 rfl rfl
  have ht13 : (tests13 K).all id = true := Gh.at_ h1 13 rfl rfl
  have hf0 : fns0 K = vals0 := Gh.at_ h2 0 rfl rfl
  have hf1 : fns1 K = vals1 := Gh.at_ h2 1 rfl rfl
  have hf2 : fns2 K = vals2 := Gh.at_ h2 2 rfl rfl
  obtain ⟨od0, an0, kV0, dc0, pm0, cd0, ct0, sl0, l0, c0⟩ := Gh.fun_of (Gh.fn_at hf0 0 rfl rfl) (Gh.test ht10 18 rfl)
  obtain ⟨od1, an1, kV1, dc1, pm1, cd1, ct1, sl1, l1, c1⟩ := Gh.fun_of (Gh.fn_at hf0 1 rfl rfl) (Gh.test ht10 19 rfl)
  obtain ⟨od2, an2, kV2, dc2, pm2, cd2, ct2, sl2, l2, c2⟩ := Gh.fun_of (Gh.fn_at hf0 2 rfl rfl) (Gh.test ht10 20 rfl)
  obtain ⟨od3, an3, kV3, dc3, pm3, cd3, ct3, sl3, l3, c3⟩ := Gh.fun_of (Gh.fn_at hf0 3 rfl rfl) (Gh.test ht10 21 rfl)
  obtain ⟨od4, an4, kV4, dc4, pm4, cd4, ct4, sl4, l4, c4⟩ := Gh.fun_of (Gh.fn_at hf0 4 rfl rfl) (Gh.test ht10 22 rfl)
  obtain ⟨od5, an5, kV5, dc5, pm5, cd5, ct5, sl5, l5, c5⟩ := Gh.fun_of (Gh.fn_at hf0 5 rfl rfl) (Gh.test ht10 23 rfl)
  obtain ⟨od6, an6, kV6, dc6, pm6, cd6, ct6, sl6, l6, c6⟩ := Gh.fun_of (Gh.fn_at hf0 6 rfl rfl) (Gh.test ht10 24 rfl)
  obtain ⟨od7, an7, kV7, dc7, pm7, cd7, ct7, sl7, l7, c7⟩ := Gh.fun_of (Gh.fn_at hf0 7 rfl rfl) (Gh.test ht11 0 rfl)
  obtain ⟨od8, an8, kV8, dc8, pm8, cd8, ct8, sl8, l8, c8⟩ := Gh.fun_of (Gh.fn_at hf0 8 rfl rfl) (Gh.test ht11 1 rfl)
  obtain ⟨od9, an9, kV9, dc9, pm9, cd9, ct9, sl9, l9, c9⟩ := Gh.fun_of (Gh.fn_at hf0 9 rfl rfl) (Gh.test ht11 2 rfl)
  obtain ⟨od10, an10, kV10, dc10, pm10, cd10, ct10, sl10, l10, c10⟩ := Gh.fun_of (Gh.fn_at hf0 10 rfl rfl) (Gh.test ht11 3 rfl)
  obtain ⟨od11, an11, kV11, dc11, pm11, cd11, ct11, sl11, l11, c11⟩ := Gh.fun_of (Gh.fn_at hf0 11 rfl rfl) (Gh.test ht11 4 rfl)
  obtain ⟨od12, an12, kV12, dc12, pm12, cd12, ct12, sl12, l12, c12⟩ := Gh.fun_of (Gh.fn_at hf0 12 rfl rfl) (Gh.test ht11 5 rfl)
  obtain ⟨od13, an13, kV13, dc13, pm13, cd13, ct13, sl13, l13, c13⟩ := Gh.fun_of (Gh.fn_at hf0 13 rfl rfl) (Gh.test ht11 6 rfl)
  obtain ⟨od14, an14, kV14, dc14, pm14, cd14, ct14, sl14, l14, c14⟩ := Gh.fun_of (Gh.fn_at hf0 14 rfl rfl) (Gh.test ht11 7 rfl)
  obtain ⟨od15, an15, kV15, dc15, pm15, cd15, ct15, sl15, l15, c15⟩ := Gh.fun_of (Gh.fn_at hf0 15 rfl rfl) (Gh.test ht11 8 rfl)
  obtain ⟨od16, an16, kV16, dc16, pm16, cd16, ct16, sl16, l16, c16⟩ := Gh.fun_of (Gh.fn_at hf0 16 rfl rfl) (Gh.test ht11 9 rfl)
  obtain ⟨od17, an17, kV17, dc17, pm17, cd17, ct17, sl17, l17, c17⟩ := Gh.fun_of (Gh.fn_at hf0 17 rfl rfl) (Gh.test ht11 10 rfl)
  obtain ⟨od18, an18, kV18, dc18, pm18, cd18, ct18, sl18, l18, c18⟩ := Gh.fun_of (Gh.fn_at hf0 18 rfl rfl) (Gh.test ht11 11 rfl)
  obtain ⟨od_CM_many, an_CM_many, kV_CM_many, dc_CM_many, pm_CM_many, cd_CM_many, ct_CM_many, sl_CM_many, l_CM_many, c_CM_many⟩ := Gh.fun_of (Gh.fn_at hf0 19 rfl rfl) (Gh.test ht11 12 rfl)
  obtain ⟨od_CM_need_make, an_CM_need_make, kV_CM_need_make, dc_CM_need_make, pm_CM_need_make, cd_CM_need_make, ct_CM_need_make, sl_CM_need_make, l_CM_need_make, c_CM_need_make⟩ := Gh.fun_of (Gh.fn_at hf0 20 rfl rfl) (Gh.test ht11 13 rfl)
  obtain ⟨od_CM_own, an_CM_own, kV_CM_own, dc_CM_own, pm_CM_own, cd_CM_own, ct_CM_own, sl_CM_own, l_CM_own, c_CM_own⟩ := Gh.fun_of (Gh.fn_at hf0 21 rfl rfl) (Gh.test ht11 14 rfl)
  obtain ⟨od_CM_line, an_CM_line, kV_CM_line, dc_CM_line, pm_CM_line, cd_CM_line, ct_CM_line, sl_CM_line, l_CM_line, c_CM_line⟩ := Gh.fun_of (Gh.fn_at hf0 22 rfl rfl) (Gh.test ht11 15 rfl)
  obtain ⟨od_CM_grow, an_CM_grow, kV_CM_grow, dc_CM_grow, pm_CM_grow, cd_CM_grow, ct_CM_grow, sl_CM_grow, l_CM_grow, c_CM_grow⟩ := Gh.fun_of (Gh.fn_at hf0 23 rfl rfl) (Gh.test ht11 16 rfl)
  obtain ⟨od_CM_init, an_CM_init, kV_CM_init, dc_CM_init, pm_CM_init, cd_CM_init, ct_CM_init, sl_CM_init, l_CM_init, c_CM_init⟩ := Gh.fun_of (Gh.fn_at hf0 24 rfl rfl) (Gh.test ht11 17 rfl)
  obtain ⟨od_CL_leaps_through, an_CL_leaps_through, kV_CL_leaps_through, dc_CL_leaps_through, pm_CL_leaps_through, cd_CL_leaps_through, ct_CL_leaps_through, sl_CL_leaps_through, l_CL_leaps_through, c_CL_leaps_through⟩ := Gh.fun_of (Gh.fn_at hf1 0 rfl rfl) (Gh.test ht11 18 rfl)
  obtain ⟨xc_CL, xd_CL, ic_CL, xs_CL, x_CL⟩ := Gh.cls_of (Gh.test ht11 19 rfl)
  obtain ⟨od_CL_grow, an_CL_grow, dc_CL_grow, pm_CL_grow, ct_CL_grow, sl_CL_grow, co_CL_grow, cc_CL_grow, ccl_CL_grow, cv_CL_grow, cdd_CL_grow, cld_CL_grow, vs_CL_grow, ccs_CL_grow, csl_CL_grow, file_CL_grow, tf_CL_grow, l_CL_grow, c_CL_grow, dl_CL_grow, fv_CL_grow, fl_CL_grow, zc_CL_grow⟩ := Gh.sup_of (Gh.fn_at hf1 1 rfl rfl) (Gh.test ht11 20 rfl)
  obtain ⟨od_CL_init, an_CL_init, dc_CL_init, pm_CL_init, ct_CL_init, sl_CL_init, co_CL_init, cc_CL_init, ccl_CL_init, cv_CL_init, cdd_CL_init, cld_CL_init, vs_CL_init, ccs_CL_init, csl_CL_init, file_CL_init, tf_CL_init, l_CL_init, c_CL_init, dl_CL_init, fv_CL_init, fl_CL_init, zc_CL_init⟩ := Gh.sup_of (Gh.fn_at hf1 2 rfl rfl) (Gh.test ht11 21 rfl)
  obtain ⟨od_C_init, an_C_init, kV_C_init, dc_C_init, pm_C_init, cd_C_init, ct_C_init, sl_C_init, l_C_init, c_C_init⟩ := Gh.fun_of (Gh.fn_at hf1 3 rfl rfl) (Gh.test ht11 22 rfl)
  obtain ⟨od_C_size, an_C_size, kV_C_size, dc_C_size, pm_C_size, cd_C_size, ct_C_size, sl_C_size, l_C_size, c_C_size⟩ := Gh.fun_of (Gh.fn_at hf1 4 rfl rfl) (Gh.test ht11 23 rfl)
  obtain ⟨od_C_many, an_C_many, kV_C_many, dc_C_many, pm_C_many, cd_C_many, ct_C_many, sl_C_many, l_C_many, c_C_many⟩ := Gh.fun_of (Gh.fn_at hf1 5 rfl rfl) (Gh.test ht11 24 rfl)
  obtain ⟨od_C_makes, an_C_makes, kV_C_makes, dc_C_makes, pm_C_makes, cd_C_makes, ct_C_makes, sl_C_makes, l_C_makes, c_C_makes⟩ := Gh.fun_of (Gh.fn_at hf1 6 rfl rfl) (Gh.test ht12 0 rfl)
  obtain ⟨od_C_steps, an_C_steps, kV_C_steps, dc_C_steps, pm_C_steps, cd_C_steps, ct_C_steps, sl_C_steps, l_C_steps, c_C_steps⟩ := Gh.fun_of (Gh.fn_at hf1 7 rfl rfl) (Gh.test ht12 1 rfl)
  obtain ⟨od_C_at, an_C_at, kV_C_at, dc_C_at, pm_C_at, cd_C_at, ct_C_at, sl_C_at, l_C_at, c_C_at⟩ := Gh.fun_of (Gh.fn_at hf1 8 rfl rfl) (Gh.test ht12 2 rfl)
  obtain ⟨od_C_row, an_C_row, kV_C_row, dc_C_row, pm_C_row, cd_C_row, ct_C_row, sl_C_row, l_C_row, c_C_row⟩ := Gh.fun_of (Gh.fn_at hf1 9 rfl rfl) (Gh.test ht12 3 rfl)
  obtain ⟨od_C_stretch, an_C_stretch, kV_C_stretch, dc_C_stretch, pm_C_stretch, cd_C_stretch, ct_C_stretch, sl_C_stretch, l_C_stretch, c_C_stretch⟩ := Gh.fun_of (Gh.fn_at hf1 10 rfl rfl) (Gh.test ht12 4 rfl)
  obtain ⟨od_C_writer, an_C_writer, kV_C_writer, dc_C_writer, pm_C_writer, cd_C_writer, ct_C_writer, sl_C_writer, l_C_writer, c_C_writer⟩ := Gh.fun_of (Gh.fn_at hf1 11 rfl rfl) (Gh.test ht12 5 rfl)
  obtain ⟨od_C_place_of, an_C_place_of, kV_C_place_of, dc_C_place_of, pm_C_place_of, cd_C_place_of, ct_C_place_of, sl_C_place_of, l_C_place_of, c_C_place_of⟩ := Gh.fun_of (Gh.fn_at hf1 12 rfl rfl) (Gh.test ht12 6 rfl)
  obtain ⟨od_C_worths_in, an_C_worths_in, kV_C_worths_in, dc_C_worths_in, pm_C_worths_in, cd_C_worths_in, ct_C_worths_in, sl_C_worths_in, l_C_worths_in, c_C_worths_in⟩ := Gh.fun_of (Gh.fn_at hf1 13 rfl rfl) (Gh.test ht12 7 rfl)
  obtain ⟨od_C_add_steps, an_C_add_steps, kV_C_add_steps, dc_C_add_steps, pm_C_add_steps, cd_C_add_steps, ct_C_add_steps, sl_C_add_steps, l_C_add_steps, c_C_add_steps⟩ := Gh.fun_of (Gh.fn_at hf1 14 rfl rfl) (Gh.test ht12 8 rfl)
  obtain ⟨od_C_need_make, an_C_need_make, kV_C_need_make, dc_C_need_make, pm_C_need_make, cd_C_need_make, ct_C_need_make, sl_C_need_make, l_C_need_make, c_C_need_make⟩ := Gh.fun_of (Gh.fn_at hf1 15 rfl rfl) (Gh.test ht12 9 rfl)
  obtain ⟨od_C_need_place, an_C_need_place, kV_C_need_place, dc_C_need_place, pm_C_need_place, cd_C_need_place, ct_C_need_place, sl_C_need_place, l_C_need_place, c_C_need_place⟩ := Gh.fun_of (Gh.fn_at hf1 16 rfl rfl) (Gh.test ht12 10 rfl)
  obtain ⟨od_C_need_stretch, an_C_need_stretch, kV_C_need_stretch, dc_C_need_stretch, pm_C_need_stretch, cd_C_need_stretch, ct_C_need_stretch, sl_C_need_stretch, l_C_need_stretch, c_C_need_stretch⟩ := Gh.fun_of (Gh.fn_at hf1 17 rfl rfl) (Gh.test ht12 11 rfl)
  obtain ⟨od_C_row_need_there, an_C_row_need_there, kV_C_row_need_there, dc_C_row_need_there, pm_C_row_need_there, cd_C_row_need_there, ct_C_row_need_there, sl_C_row_need_there, l_C_row_need_there, c_C_row_need_there⟩ := Gh.fun_of (Gh.fn_at hf1 18 rfl rfl) (Gh.test ht12 12 rfl)
  obtain ⟨od_C_up_to_writer, an_C_up_to_writer, kV_C_up_to_writer, dc_C_up_to_writer, pm_C_up_to_writer, cd_C_up_to_writer, ct_C_up_to_writer, sl_C_up_to_writer, l_C_up_to_writer, c_C_up_to_writer⟩ := Gh.fun_of (Gh.fn_at hf1 19 rfl rfl) (Gh.test ht12 13 rfl)
  obtain ⟨od_C_row_put, an_C_row_put, kV_C_row_put, dc_C_row_put, pm_C_row_put, cd_C_row_put, ct_C_row_put, sl_C_row_put, l_C_row_put, c_C_row_put⟩ := Gh.fun_of (Gh.fn_at hf1 20 rfl rfl) (Gh.test ht12 14 rfl)
  obtain ⟨od_C_row_need_room_for, an_C_row_need_room_for, kV_C_row_need_room_for, dc_C_row_need_room_for, pm_C_row_need_room_for, cd_C_row_need_room_for, ct_C_row_need_room_for, sl_C_row_need_room_for, l_C_row_need_room_for, c_C_row_need_room_for⟩ := Gh.fun_of (Gh.fn_at hf1 21 rfl rfl) (Gh.test ht12 15 rfl)
  obtain ⟨od_C_row_writers, an_C_row_writers, kV_C_row_writers, dc_C_row_writers, pm_C_row_writers, cd_C_row_writers, ct_C_row_writers, sl_C_row_writers, l_C_row_writers, c_C_row_writers⟩ := Gh.fun_of (Gh.fn_at hf1 22 rfl rfl) (Gh.test ht12 16 rfl)
  obtain ⟨od_C_needed_no_more, an_C_needed_no_more, kV_C_needed_no_more, dc_C_needed_no_more, pm_C_needed_no_more, cd_C_needed_no_more, ct_C_needed_no_more, sl_C_needed_no_more, l_C_needed_no_more, c_C_needed_no_more⟩ := Gh.fun_of (Gh.fn_at hf1 23 rfl rfl) (Gh.test ht12 17 rfl)
  obtain ⟨od_C_begin, an_C_begin, kV_C_begin, dc_C_begin, pm_C_begin, cd_C_begin, ct_C_begin, sl_C_begin, l_C_begin, c_C_begin⟩ := Gh.fun_of (Gh.fn_at hf1 24 rfl rfl) (Gh.test ht12 18 rfl)
  obtain ⟨od_C_store, an_C_store, kV_C_store, dc_C_store, pm_C_store, cd_C_store, ct_C_store, sl_C_store, l_C_store, c_C_store⟩ := Gh.fun_of (Gh.fn_at hf2 0 rfl rfl) (Gh.test ht12 19 rfl)
  obtain ⟨od_C_freed, an_C_freed, kV_C_freed, dc_C_freed, pm_C_freed, cd_C_freed, ct_C_freed, sl_C_freed, l_C_freed, c_C_freed⟩ := Gh.fun_of (Gh.fn_at hf2 1 rfl rfl) (Gh.test ht12 20 rfl)
  obtain ⟨od_C_looked, an_C_looked, kV_C_looked, dc_C_looked, pm_C_looked, cd_C_looked, ct_C_looked, sl_C_looked, l_C_looked, c_C_looked⟩ := Gh.fun_of (Gh.fn_at hf2 2 rfl rfl) (Gh.test ht12 21 rfl)
  obtain ⟨od_C_box, an_C_box, kV_C_box, dc_C_box, pm_C_box, cd_C_box, ct_C_box, sl_C_box, l_C_box, c_C_box⟩ := Gh.fun_of (Gh.fn_at hf2 3 rfl rfl) (Gh.test ht12 22 rfl)
  obtain ⟨od_C_need_new, an_C_need_new, kV_C_need_new, dc_C_need_new, pm_C_need_new, cd_C_need_new, ct_C_need_new, sl_C_need_new, l_C_need_new, c_C_need_new⟩ := Gh.fun_of (Gh.fn_at hf2 4 rfl rfl) (Gh.test ht12 23 rfl)
  obtain ⟨od_CR_let_go, an_CR_let_go, kV_CR_let_go, dc_CR_let_go, pm_CR_let_go, cd_CR_let_go, ct_CR_let_go, sl_CR_let_go, l_CR_let_go, c_CR_let_go⟩ := Gh.fun_of (Gh.fn_at hf2 5 rfl rfl) (Gh.test ht12 24 rfl)
  obtain ⟨od_CR_put, an_CR_put, kV_CR_put, dc_CR_put, pm_CR_put, cd_CR_put, ct_CR_put, sl_CR_put, l_CR_put, c_CR_put⟩ := Gh.fun_of (Gh.fn_at hf2 6 rfl rfl) (Gh.test ht13 0 rfl)
  obtain ⟨od_CR_put_all, an_CR_put_all, kV_CR_put_all, dc_CR_put_all, pm_CR_put_all, cd_CR_put_all, ct_CR_put_all, sl_CR_put_all, l_CR_put_all, c_CR_put_all⟩ := Gh.fun_of (Gh.fn_at hf2 7 rfl rfl) (Gh.test ht13 1 rfl)
  obtain ⟨xc_C, xd_C, ic_C, xs_C, x_C⟩ := Gh.cls_of (Gh.test ht13 2 rfl)
  obtain ⟨od_C_let_go, an_C_let_go, dc_C_let_go, pm_C_let_go, ct_C_let_go, sl_C_let_go, co_C_let_go, cc_C_let_go, ccl_C_let_go, cv_C_let_go, cdd_C_let_go, cld_C_let_go, vs_C_let_go, ccs_C_let_go, csl_C_let_go, file_C_let_go, tf_C_let_go, l_C_let_go, c_C_let_go, dl_C_let_go, fv_C_let_go, fl_C_let_go, zc_C_let_go⟩ := Gh.sup_of (Gh.fn_at hf2 8 rfl rfl) (Gh.test ht13 3 rfl)
  obtain ⟨od_C_put, an_C_put, dc_C_put, pm_C_put, ct_C_put, sl_C_put, co_C_put, cc_C_put, ccl_C_put, cv_C_put, cdd_C_put, cld_C_put, vs_C_put, ccs_C_put, csl_C_put, file_C_put, tf_C_put, l_C_put, c_C_put, dl_C_put, fv_C_put, fl_C_put, zc_C_put⟩ := Gh.sup_of (Gh.fn_at hf2 9 rfl rfl) (Gh.test ht13 4 rfl)
  obtain ⟨od_C_put_all, an_C_put_all, dc_C_put_all, pm_C_put_all, ct_C_put_all, sl_C_put_all, co_C_put_all, cc_C_put_all, ccl_C_put_all, cv_C_put_all, cdd_C_put_all, cld_C_put_all, vs_C_put_all, ccs_C_put_all, csl_C_put_all, file_C_put_all, tf_C_put_all, l_C_put_all, c_C_put_all, dl_C_put_all, fv_C_put_all, fl_C_put_all, zc_C_put_all⟩ := Gh.sup_of (Gh.fn_at hf2 10 rfl rfl) (Gh.test ht13 5 rfl)
  obtain ⟨odA, anA, dcA, pmA, ctA, slA, cdaA, ccA, cclA, clA, cddA, cldA, vsA, ccsA, cslA, fileA, tfA, llA, ciA, dlA, fvA, flA, zcA⟩ := Gh.sup_of (Gh.fn_at hf2 11 rfl rfl) (Gh.test ht13 6 rfl)
  obtain ⟨nmA, qA, NA, bsA, snA, subA, abA, colA, ddA, m0A, m1A, m2A, m3A, m5A, xA⟩ := Gh.exc_of (Gh.test ht13 7 rfl)
  obtain ⟨odN, anN, dcN, pmN, ctN, slN, cdaN, ccN, cclN, clN, cddN, cldN, vsN, ccsN, cslN, fileN, tfN, llN, ciN, dlN, fvN, flN, zcN⟩ := Gh.sup_of (Gh.fn_at hf2 12 rfl rfl) (Gh.test ht13 8 rfl)
  obtain ⟨nmN, qN, NN, bsN, snN, subN, abN, colN, ddN, m0N, m1N, m2N, m3N, m5N, xN⟩ := Gh.exc_of (Gh.test ht13 9 rfl)
  obtain ⟨odP, anP, dcP, pmP, ctP, slP, cdaP, ccP, cclP, clP, cddP, cldP, vsP, ccsP, cslP, fileP, tfP, llP, ciP, dlP, fvP, flP, zcP⟩ := Gh.sup_of (Gh.fn_at hf2 13 rfl rfl) (Gh.test ht13 10 rfl)
  obtain ⟨nmP, qP, NP, bsP, snP, subP, abP, colP, ddP, m0P, m1P, m2P, m3P, m5P, xP⟩ := Gh.exc_of (Gh.test ht13 11 rfl)
  obtain ⟨odW, anW, dcW, pmW, ctW, slW, cdaW, ccW, cclW, clW, cddW, cldW, vsW, ccsW, cslW, fileW, tfW, llW, ciW, dlW, fvW, flW, zcW⟩ := Gh.sup_of (Gh.fn_at hf2 14 rfl rfl) (Gh.test ht13 12 rfl)
  obtain ⟨nmW, qW, NW, bsW, snW, subW, abW, colW, ddW, m0W, m1W, m2W, m3W, m5W, xW⟩ := Gh.exc_of (Gh.test ht13 13 rfl)
  obtain ⟨odG, anG, dcG, pmG, ctG, slG, cdaG, ccG, cclG, clG, cddG, cldG, vsG, ccsG, cslG, fileG, tfG, llG, ciG, dlG, fvG, flG, zcG⟩ := Gh.sup_of (Gh.fn_at hf2 15 rfl rfl) (Gh.test ht13 14 rfl)
  obtain ⟨nmG, qG, NG, bsG, snG, subG, abG, colG, ddG, m0G, m1G, m2G, m3G, m5G, xG⟩ := Gh.exc_of (Gh.test ht13 15 rfl)
  obtain ⟨odT, anT, dcT, pmT, ctT, slT, cdaT, ccT, cclT, clT, cddT, cldT, vsT, ccsT, cslT, fileT, tfT, llT, ciT, dlT, fvT, flT, zcT⟩ := Gh.sup_of (Gh.fn_at hf2 16 rfl rfl) (Gh.test ht13 16 rfl)
  obtain ⟨nmT, qT, NT, bsT, snT, subT, abT, colT, ddT, m0T, m1T, m2T, m3T, m5T, xT⟩ := Gh.exc_of (Gh.test ht13 17 rfl)
  obtain ⟨odS, anS, dcS, pmS, ctS, slS, cdaS, ccS, cclS, clS, cddS, cldS, vsS, ccsS, cslS, fileS, tfS, llS, ciS, dlS, fvS, flS, zcS⟩ := Gh.sup_of (Gh.fn_at hf2 17 rfl rfl) (Gh.test ht13 18 rfl)
  obtain ⟨nmS, qS, NS, bsS, snS, subS, abS, colS, ddS, m0S, m1S, m2S, m3S, m5S, xS⟩ := Gh.exc_of (Gh.test ht13 19 rfl)
  exact all_mk (l := PySem.Challenge.rw_makeskept_k41_elder_ones_refused) X G hfa
    (He.eqO_ok (Gh.test ht0 0 rfl))
    l0
    c0
    (He.eqO_ok (Gh.test ht0 1 rfl))
    l1
    c1
    (He.eqO_ok (Gh.test ht0 2 rfl))
    l2
    c2
    (He.eqO_ok (Gh.test ht0 3 rfl))
    l3
    c3
    (He.eqO_ok (Gh.test ht0 4 rfl))
    l4
    c4
    (He.eqO_ok (Gh.test ht0 5 rfl))
    l5
    c5
    (He.eqO_ok (Gh.test ht0 6 rfl))
    l6
    c6
    (He.eqO_ok (Gh.test ht0 7 rfl))
    l7
    c7
    (He.eqO_ok (Gh.test ht0 8 rfl))
    l8
    c8
    (He.eqO_ok (Gh.test ht0 9 rfl))
    l9
    c9
    (He.eqO_ok (Gh.test ht0 10 rfl))
    l10
    c10
    (He.eqO_ok (Gh.test ht0 11 rfl))
    l11
    c11
    (He.eqO_ok (Gh.test ht0 12 rfl))
    l12
    c12
    (He.eqO_ok (Gh.test ht0 13 rfl))
    l13
    c13
    (He.eqO_ok (Gh.test ht0 14 rfl))
    l14
    c14
    (He.eqO_ok (Gh.test ht0 15 rfl))
    l15
    c15
    (He.eqO_ok (Gh.test ht0 16 rfl))
    l16
    c16
    (He.eqO_ok (Gh.test ht0 17 rfl))
    l17
    c17
    (He.eqO_ok (Gh.test ht0 18 rfl))
    l18
    c18
    (He.eqO_ok (Gh.test ht0 19 rfl))
    (He.eqO_ok (Gh.test ht0 20 rfl))
    (He.eqO_ok (Gh.test ht0 21 rfl))
    (He.eqO_ok (Gh.test ht0 22 rfl))
    (He.eqO_ok (Gh.test ht0 23 rfl))
    (He.eqO_ok (Gh.test ht0 24 rfl))
    (He.eqO_ok (Gh.test ht1 0 rfl))
    (He.eqO_ok (Gh.test ht1 1 rfl))
    (He.eqO_ok (Gh.test ht1 2 rfl))
    (He.eqO_ok (Gh.test ht1 3 rfl))
    (He.eqO_ok (Gh.test ht1 4 rfl))
    (He.eqO_ok (Gh.test ht1 5 rfl))
    (He.eqO_ok (Gh.test ht1 6 rfl))
    (He.eqO_ok (Gh.test ht1 7 rfl))
    (He.eqO_ok (Gh.test ht1 8 rfl))
    (He.eqO_ok (Gh.test ht1 9 rfl))
    (He.eqO_ok (Gh.test ht1 10 rfl))
    (He.eqO_ok (Gh.test ht1 11 rfl))
    (He.eqO_ok (Gh.test ht1 12 rfl))
    (He.eqO_ok (Gh.test ht1 13 rfl))
    (He.eqO_ok (Gh.test ht1 14 rfl))
    (He.eqO_ok (Gh.test ht1 15 rfl))
    (Gh.test ht1 16 rfl)
    (Gh.test ht1 17 rfl)
    (Gh.test ht1 18 rfl)
    (He.eqO_ok (Gh.test ht1 19 rfl))
    (He.eqO_ok (Gh.test ht1 20 rfl))
    (He.eqO_ok (Gh.test ht1 21 rfl))
    (He.eqO_ok (Gh.test ht1 22 rfl))
    (He.eqO_ok (Gh.test ht1 23 rfl))
    (Gh.test ht1 24 rfl)
    (Gh.test ht2 0 rfl)
    (He.eqO_ok (Gh.test ht2 1 rfl))
    l_CM_many
    c_CM_many
    (He.eqO_ok (Gh.test ht2 2 rfl))
    l_CM_need_make
    c_CM_need_make
    (He.eqO_ok (Gh.test ht2 3 rfl))
    l_CM_own
    c_CM_own
    (He.eqO_ok (Gh.test ht2 4 rfl))
    l_CM_line
    c_CM_line
    (He.eqO_ok (Gh.test ht2 5 rfl))
    l_CM_grow
    c_CM_grow
    (He.eqO_ok (Gh.test ht2 6 rfl))
    l_CM_init
    c_CM_init
    (He.eqO_ok (Gh.test ht2 7 rfl))
    l_CL_leaps_through
    c_CL_leaps_through
    (He.eqO_ok (Gh.test ht2 8 rfl))
    (He.eqO_ok (Gh.test ht2 9 rfl))
    (by first | rfl | decide +kernel)
    x_CL
    (of_decide_eq_true (Gh.test ht2 10 rfl))
    (He.eqO_ok (Gh.test ht2 11 rfl))
    l_CL_grow
    c_CL_grow
    dl_CL_grow
    fv_CL_grow
    fl_CL_grow
    zc_CL_grow
    (He.eqO_ok (Gh.test ht2 12 rfl))
    (He.eqO_ok (Gh.test ht2 13 rfl))
    l_CL_init
    c_CL_init
    dl_CL_init
    fv_CL_init
    fl_CL_init
    zc_CL_init
    (He.eqO_ok (Gh.test ht2 14 rfl))
    (He.eqO_ok (Gh.test ht2 15 rfl))
    (Gh.test ht2 16 rfl)
    (Gh.test ht2 17 rfl)
    (Gh.test ht2 18 rfl)
    (He.eqO_ok (Gh.test ht2 19 rfl))
    (He.eqO_ok (Gh.test ht2 20 rfl))
    (He.eqO_ok (Gh.test ht2 21 rfl))
    (He.eqO_ok (Gh.test ht2 22 rfl))
    (He.eqO_ok (Gh.test ht2 23 rfl))
    (He.eqO_ok (Gh.test ht2 24 rfl))
    (He.eqO_ok (Gh.test ht3 0 rfl))
    (Gh.test ht3 1 rfl)
    (Gh.test ht3 2 rfl)
    (He.eqO_ok (Gh.test ht3 3 rfl))
    l_C_init
    c_C_init
    (He.eqO_ok (Gh.test ht3 4 rfl))
    l_C_size
    c_C_size
    (He.eqO_ok (Gh.test ht3 5 rfl))
    l_C_many
    c_C_many
    (He.eqO_ok (Gh.test ht3 6 rfl))
    l_C_makes
    c_C_makes
    (He.eqO_ok (Gh.test ht3 7 rfl))
    l_C_steps
    c_C_steps
    (He.eqO_ok (Gh.test ht3 8 rfl))
    l_C_at
    c_C_at
    (He.eqO_ok (Gh.test ht3 9 rfl))
    l_C_row
    c_C_row
    (He.eqO_ok (Gh.test ht3 10 rfl))
    l_C_stretch
    c_C_stretch
    (He.eqO_ok (Gh.test ht3 11 rfl))
    l_C_writer
    c_C_writer
    (He.eqO_ok (Gh.test ht3 12 rfl))
    l_C_place_of
    c_C_place_of
    (He.eqO_ok (Gh.test ht3 13 rfl))
    l_C_worths_in
    c_C_worths_in
    (He.eqO_ok (Gh.test ht3 14 rfl))
    l_C_add_steps
    c_C_add_steps
    (He.eqO_ok (Gh.test ht3 15 rfl))
    l_C_need_make
    c_C_need_make
    (He.eqO_ok (Gh.test ht3 16 rfl))
    l_C_need_place
    c_C_need_place
    (He.eqO_ok (Gh.test ht3 17 rfl))
    l_C_need_stretch
    c_C_need_stretch
    (He.eqO_ok (Gh.test ht3 18 rfl))
    l_C_row_need_there
    c_C_row_need_there
    (He.eqO_ok (Gh.test ht3 19 rfl))
    l_C_up_to_writer
    c_C_up_to_writer
    (He.eqO_ok (Gh.test ht3 20 rfl))
    l_C_row_put
    c_C_row_put
    (He.eqO_ok (Gh.test ht3 21 rfl))
    l_C_row_need_room_for
    c_C_row_need_room_for
    (He.eqO_ok (Gh.test ht3 22 rfl))
    l_C_row_writers
    c_C_row_writers
    (He.eqO_ok (Gh.test ht3 23 rfl))
    l_C_needed_no_more
    c_C_needed_no_more
    (He.eqO_ok (Gh.test ht3 24 rfl))
    l_C_begin
    c_C_begin
    (He.eqO_ok (Gh.test ht4 0 rfl))
    l_C_store
    c_C_store
    (He.eqO_ok (Gh.test ht4 1 rfl))
    l_C_freed
    c_C_freed
    (He.eqO_ok (Gh.test ht4 2 rfl))
    l_C_looked
    c_C_looked
    (He.eqO_ok (Gh.test ht4 3 rfl))
    l_C_box
    c_C_box
    (He.eqO_ok (Gh.test ht4 4 rfl))
    l_C_need_new
    c_C_need_new
    (He.eqO_ok (Gh.test ht4 5 rfl))
    (He.eqO_ok (Gh.test ht4 6 rfl))
    l_CR_let_go
    c_CR_let_go
    (He.eqO_ok (Gh.test ht4 7 rfl))
    l_CR_put
    c_CR_put
    (He.eqO_ok (Gh.test ht4 8 rfl))
    l_CR_put_all
    c_CR_put_all
    x_C
    (of_decide_eq_true (Gh.test ht4 9 rfl))
    (He.eqO_ok (Gh.test ht4 10 rfl))
    l_C_let_go
    c_C_let_go
    dl_C_let_go
    fv_C_let_go
    fl_C_let_go
    zc_C_let_go
    (He.eqO_ok (Gh.test ht4 11 rfl))
    (He.eqO_ok (Gh.test ht4 12 rfl))
    l_C_put
    c_C_put
    dl_C_put
    fv_C_put
    fl_C_put
    zc_C_put
    (He.eqO_ok (Gh.test ht4 13 rfl))
    (He.eqO_ok (Gh.test ht4 14 rfl))
    l_C_put_all
    c_C_put_all
    dl_C_put_all
    fv_C_put_all
    fl_C_put_all
    zc_C_put_all
    (He.eqO_ok (Gh.test ht4 15 rfl))
    (He.eqO_ok (Gh.test ht4 16 rfl))
    (Gh.test ht4 17 rfl)
    (of_decide_eq_true (Gh.test ht4 18 rfl))
    (of_decide_eq_true (Gh.test ht4 19 rfl))
    (He.eqO_ok (Gh.test ht4 20 rfl))
    xA
    (He.eqO_ok (Gh.test ht4 21 rfl))
    (He.eqO_ok (Gh.test ht4 22 rfl))
    (He.eqO_ok (Gh.test ht4 23 rfl))
    (He.eqO_ok (Gh.test ht4 24 rfl))
    (He.eqO_ok (Gh.test ht5 0 rfl))
    (Gh.test ht5 1 rfl)
    (of_decide_eq_true (Gh.test ht5 2 rfl))
    (of_decide_eq_true (Gh.test ht5 3 rfl))
    (of_decide_eq_true (Gh.test ht5 4 rfl))
    (Gh.test ht5 5 rfl)
    (of_decide_eq_true (Gh.test ht5 6 rfl))
    (He.eqO_ok (Gh.test ht5 7 rfl))
    llA
    ciA
    dlA
    fvA
    flA
    zcA
    (by rfl)
    (He.eqO_ok (Gh.test ht5 8 rfl))
    (He.eqO_ok (Gh.test ht5 9 rfl))
    (of_decide_eq_true (Gh.test ht5 10 rfl))
    (of_decide_eq_true (Gh.test ht5 11 rfl))
    (of_decide_eq_true (Gh.test ht5 12 rfl))
    (He.eqO_ok (Gh.test ht5 13 rfl))
    xN
    (He.eqO_ok (Gh.test ht5 14 rfl))
    (He.eqO_ok (Gh.test ht5 15 rfl))
    (He.eqO_ok (Gh.test ht5 16 rfl))
    (He.eqO_ok (Gh.test ht5 17 rfl))
    (He.eqO_ok (Gh.test ht5 18 rfl))
    (Gh.test ht5 19 rfl)
    (of_decide_eq_true (Gh.test ht5 20 rfl))
    (of_decide_eq_true (Gh.test ht5 21 rfl))
    (of_decide_eq_true (Gh.test ht5 22 rfl))
    (Gh.test ht5 23 rfl)
    (of_decide_eq_true (Gh.test ht5 24 rfl))
    (He.eqO_ok (Gh.test ht6 0 rfl))
    llN
    ciN
    dlN
    fvN
    flN
    zcN
    (by rfl)
    (He.eqO_ok (Gh.test ht6 1 rfl))
    (He.eqO_ok (Gh.test ht6 2 rfl))
    (of_decide_eq_true (Gh.test ht6 3 rfl))
    (of_decide_eq_true (Gh.test ht6 4 rfl))
    (of_decide_eq_true (Gh.test ht6 5 rfl))
    (He.eqO_ok (Gh.test ht6 6 rfl))
    xP
    (He.eqO_ok (Gh.test ht6 7 rfl))
    (He.eqO_ok (Gh.test ht6 8 rfl))
    (He.eqO_ok (Gh.test ht6 9 rfl))
    (He.eqO_ok (Gh.test ht6 10 rfl))
    (He.eqO_ok (Gh.test ht6 11 rfl))
    (Gh.test ht6 12 rfl)
    (of_decide_eq_true (Gh.test ht6 13 rfl))
    (of_decide_eq_true (Gh.test ht6 14 rfl))
    (of_decide_eq_true (Gh.test ht6 15 rfl))
    (Gh.test ht6 16 rfl)
    (of_decide_eq_true (Gh.test ht6 17 rfl))
    (He.eqO_ok (Gh.test ht6 18 rfl))
    llP
    ciP
    dlP
    fvP
    flP
    zcP
    (by rfl)
    (He.eqO_ok (Gh.test ht6 19 rfl))
    (He.eqO_ok (Gh.test ht6 20 rfl))
    (of_decide_eq_true (Gh.test ht6 21 rfl))
    (of_decide_eq_true (Gh.test ht6 22 rfl))
    (of_decide_eq_true (Gh.test ht6 23 rfl))
    (He.eqO_ok (Gh.test ht6 24 rfl))
    xW
    (He.eqO_ok (Gh.test ht7 0 rfl))
    (He.eqO_ok (Gh.test ht7 1 rfl))
    (He.eqO_ok (Gh.test ht7 2 rfl))
    (He.eqO_ok (Gh.test ht7 3 rfl))
    (He.eqO_ok (Gh.test ht7 4 rfl))
    (Gh.test ht7 5 rfl)
    (of_decide_eq_true (Gh.test ht7 6 rfl))
    (of_decide_eq_true (Gh.test ht7 7 rfl))
    (of_decide_eq_true (Gh.test ht7 8 rfl))
    (Gh.test ht7 9 rfl)
    (of_decide_eq_true (Gh.test ht7 10 rfl))
    (He.eqO_ok (Gh.test ht7 11 rfl))
    llW
    ciW
    dlW
    fvW
    flW
    zcW
    (by rfl)
    (He.eqO_ok (Gh.test ht7 12 rfl))
    (He.eqO_ok (Gh.test ht7 13 rfl))
    (of_decide_eq_true (Gh.test ht7 14 rfl))
    (of_decide_eq_true (Gh.test ht7 15 rfl))
    (of_decide_eq_true (Gh.test ht7 16 rfl))
    (He.eqO_ok (Gh.test ht7 17 rfl))
    xG
    (He.eqO_ok (Gh.test ht7 18 rfl))
    (He.eqO_ok (Gh.test ht7 19 rfl))
    (He.eqO_ok (Gh.test ht7 20 rfl))
    (He.eqO_ok (Gh.test ht7 21 rfl))
    (He.eqO_ok (Gh.test ht7 22 rfl))
    (Gh.test ht7 23 rfl)
    (of_decide_eq_true (Gh.test ht7 24 rfl))
    (of_decide_eq_true (Gh.test ht8 0 rfl))
    (of_decide_eq_true (Gh.test ht8 1 rfl))
    (Gh.test ht8 2 rfl)
    (of_decide_eq_true (Gh.test ht8 3 rfl))
    (He.eqO_ok (Gh.test ht8 4 rfl))
    llG
    ciG
    dlG
    fvG
    flG
    zcG
    (by rfl)
    (He.eqO_ok (Gh.test ht8 5 rfl))
    (He.eqO_ok (Gh.test ht8 6 rfl))
    (of_decide_eq_true (Gh.test ht8 7 rfl))
    (of_decide_eq_true (Gh.test ht8 8 rfl))
    (of_decide_eq_true (Gh.test ht8 9 rfl))
    (He.eqO_ok (Gh.test ht8 10 rfl))
    xT
    (He.eqO_ok (Gh.test ht8 11 rfl))
    (He.eqO_ok (Gh.test ht8 12 rfl))
    (He.eqO_ok (Gh.test ht8 13 rfl))
    (He.eqO_ok (Gh.test ht8 14 rfl))
    (He.eqO_ok (Gh.test ht8 15 rfl))
    (Gh.test ht8 16 rfl)
    (of_decide_eq_true (Gh.test ht8 17 rfl))
    (of_decide_eq_true (Gh.test ht8 18 rfl))
    (of_decide_eq_true (Gh.test ht8 19 rfl))
    (Gh.test ht8 20 rfl)
    (of_decide_eq_true (Gh.test ht8 21 rfl))
    (He.eqO_ok (Gh.test ht8 22 rfl))
    llT
    ciT
    dlT
    fvT
    flT
    zcT
    (by rfl)
    (He.eqO_ok (Gh.test ht8 23 rfl))
    (He.eqO_ok (Gh.test ht8 24 rfl))
    (of_decide_eq_true (Gh.test ht9 0 rfl))
    (of_decide_eq_true (Gh.test ht9 1 rfl))
    (of_decide_eq_true (Gh.test ht9 2 rfl))
    (He.eqO_ok (Gh.test ht9 3 rfl))
    xS
    (He.eqO_ok (Gh.test ht9 4 rfl))
    (He.eqO_ok (Gh.test ht9 5 rfl))
    (He.eqO_ok (Gh.test ht9 6 rfl))
    (He.eqO_ok (Gh.test ht9 7 rfl))
    (He.eqO_ok (Gh.test ht9 8 rfl))
    (Gh.test ht9 9 rfl)
    (of_decide_eq_true (Gh.test ht9 10 rfl))
    (of_decide_eq_true (Gh.test ht9 11 rfl))
    (of_decide_eq_true (Gh.test ht9 12 rfl))
    (Gh.test ht9 13 rfl)
    (of_decide_eq_true (Gh.test ht9 14 rfl))
    (He.eqO_ok (Gh.test ht9 15 rfl))
    llS
    ciS
    dlS
    fvS
    flS
    zcS
    (by rfl)
    (He.eqO_ok (Gh.test ht9 16 rfl))
    (He.eqO_ok (Gh.test ht9 17 rfl))
    (of_decide_eq_true (Gh.test ht9 18 rfl))
    (of_decide_eq_true (Gh.test ht9 19 rfl))
    (of_decide_eq_true (Gh.test ht9 20 rfl))
    (He.eqO_ok (Gh.test ht9 21 rfl))
    (of_decide_eq_true (Gh.test ht9 22 rfl))
    (of_decide_eq_true (Gh.test ht9 23 rfl))
    (of_decide_eq_true (Gh.test ht9 24 rfl))
    (of_decide_eq_true (Gh.test ht10 0 rfl))
    (of_decide_eq_true (Gh.test ht10 1 rfl))
    (of_decide_eq_true (Gh.test ht10 2 rfl))
    (of_decide_eq_true (Gh.test ht10 3 rfl))
    (of_decide_eq_true (Gh.test ht10 4 rfl))
    (of_decide_eq_true (Gh.test ht10 5 rfl))
    (of_decide_eq_true (Gh.test ht10 6 rfl))
    (of_decide_eq_true (Gh.test ht10 7 rfl))
    (of_decide_eq_true (Gh.test ht10 8 rfl))
    (of_decide_eq_true (Gh.test ht10 9 rfl))
    (of_decide_eq_true (Gh.test ht10 10 rfl))
    (of_decide_eq_true (Gh.test ht10 11 rfl))
    (of_decide_eq_true (Gh.test ht10 12 rfl))
    (of_decide_eq_true (Gh.test ht10 13 rfl))
    (of_decide_eq_true (Gh.test ht10 14 rfl))
    (of_decide_eq_true (Gh.test ht10 15 rfl))
    (of_decide_eq_true (Gh.test ht10 16 rfl))
    (of_decide_eq_true (Gh.test ht10 17 rfl))
end Hd
end K41
open PySem PySem.W PySem.Calls PyProof.Rows
set_option maxRecDepth 100000 in
set_option maxHeartbeats 0 in
theorem PySem.Challenge.cw_makeskept_k41_elder_ones_refused_holds : PySem.Challenge.rw_makeskept_k41_elder_ones_refused.Holds := by
  w_on; o_law
  refine HandSHeadRun.head_any (r := OpenLaw.row PySem.Challenge.rw_makeskept_k41_elder_ones_refused) (q := view (OpenLaw.row PySem.Challenge.rw_makeskept_k41_elder_ones_refused).prog [46]) (H := Gh.hook K41.Hd.as_ K41.Hd.obs K41.Hd.val) (ob := Gh.ob K41.Hd.as_ K41.Hd.obs) (M := 6580) (loose := K41.Hd.names) (d := HandSHeadRun.topDef (OpenLaw.row PySem.Challenge.rw_makeskept_k41_elder_ones_refused).prog 46) (kwd := []) (Gh.ob_eq _ _ _)
    (by kernel_rfl) (fun s => by kernel_rfl) K41.Hd.run (by kernel_rfl) (by kernel_rfl) (by kernel_rfl) (by rfl) (by first | assumption | decide +kernel) (by decide +kernel) ⟨rfl, rfl, rfl, rfl, rfl, by decide +kernel⟩ ?hw ?hc
  case hw => w_witness2
  case hc =>
    refine Gh.walkGE (l := PySem.Challenge.rw_makeskept_k41_elder_ones_refused) (n := 63) (k := 27) (x := "_law_script") rfl (by decide) (by kernel_rfl) ⟨rfl, by decide, by decide⟩ ?F
    intro w mg fa h Y G hmg0
    obtain ⟨K, KX, c⟩ := Y
    have hmg : mg ("law" : PySem.Str) = some (.ref fa) := by
      have e : (HandSHeadRun.topDef (OpenLaw.row PySem.Challenge.rw_makeskept_k41_elder_ones_refused).prog 46).name = ("law" : PySem.Str) := by kernel_rfl
      rw [← e]
      exact hmg0
    obtain ⟨fd, hb, hF⟩ := K41.Hd.all_c (w := w) KX G hmg c
    exact ⟨K, fd, K41.spLaw K, KX, hb, fun H a ns hl _ hS => ⟨a, ns, rfl, hS, hl, fun _ => rfl⟩, hF⟩

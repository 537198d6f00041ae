import PyProof.Rows.All
import Wide.All
import OpenK.AllK
import Wide.FinOn
import HandS.ForMost
import HandS.IsInst
import HandS.TupLe
import PyProof.ReprLen
import KE.KExcLine
import HandS.Exc
import HandS.ExcOwn
import HandS.WordsExc
import KE.KExcIs
import HandS.TryOnly
import HandS.Nested
import KE.KSuper
import HandS.Codes
import HandS.Style
import HandS.Walk
import HandS.SetFor
import HandS.More
import HandS.WordsDict
import HandS.DictComp
import OpenK.KOwn
import KE.RegKSuper
import PySem.Challenge.RW_makeskept_k15_orders_refused
set_option Elab.async false
set_option linter.all false
set_option maxRecDepth 100000
set_option maxHeartbeats 4000000
/-! A promise of a def that is kept where nothing is being shown (no repr under way), and repr of data under it. -/
namespace Gd
open PySem PySem.Spec PyProof.Rows L2

/-- as FnOk, asked only where no repr is under way -/
structure FnG (P : Program) (w : World) (K : PySem.W.Frag) (mg : Str → Option Value) (base : Heap)
    (CX : CXT) (k : Nat) (f : Addr) (fd : FuncData) (ps : List Str) (sp : Sp) : Prop where
  arity : ∀ vs H Q E, sp vs H Q E → vs.length = ps.length
  go : ∀ (A : Around) (outer : List Env) (s : Shared) (H : Hp) (args : Args) (us : List Value) (vs : List V)
    (Q : VK) (E : XK), A.guards = some [] → Room k A → Env0 P w K mg base A outer s H →
    BindsTo s fd args (ps.zip us) → Vals vs us → sp vs H Q E →
    codeAny (model P w) A (.call (.ref f) args) (CR CX outer P w H s Q E) s

section
variable {P : Program} {w : World} {K : PySem.W.Frag} {mg : Str → Option Value} {base : Heap}
theorem FnG.low {CX : CXT} {j k : Nat} {f : Addr} {fd : FuncData} {ps : List Str} {sp : Sp}
    (F : FnG P w K mg base CX j f fd ps sp) (h : j ≤ k) : FnG P w K mg base CX k f fd ps sp :=
  ⟨F.arity, fun A o s H ar us vs Q E g r => F.go A o s H ar us vs Q E g (r.mono h)⟩
theorem FnG.ofOk {CX : CXT} {k : Nat} {f : Addr} {fd : FuncData} {ps : List Str} {sp : Sp}
    (F : FnOk P w K mg base CX k f fd ps sp) : FnG P w K mg base CX k f fd ps sp :=
  ⟨F.len, fun A o s H ar us vs Q E _ r => F.run A o s H ar us vs Q E r⟩

/-- the rule for a def, told that no repr is under way -/
theorem fnG_of {CX : CXT} {k : Nat} {f : Addr} {name qual : Str} {params : Arguments} {body : List Stmt}
    {scope : Scope} {dV kV doc pm cdv ct oc : Value} {an od : Option Addr} {osl : Array (Option Value)}
    {N ps : List Str} {sp : Sp}
    (lk : K.lookup f = some ⟨oc, od, .func (PySem.W.fnOf name qual params body scope dV kV doc pm an cdv ct), osl⟩)
    (cin : PySem.W.codeIn K cdv qual = true) (S : FnScope N ps scope)
    (ar : ∀ vs H Q E, sp vs H Q E → vs.length = ps.length)
    (bd : ∀ (A : Around) (outer : List Env) (s : Shared) (H : Hp) (vs : List V) (Q : VK) (E : XK),
      A.guards = some [] → Room k (A.deeper (envOfC qual scope s.heap.objs.size f cdv)) → sp vs H Q E →
      ∃ t, PSs (cxOf CX P w K mg base N qual scope f cdv A outer s H E) body t ∧
        t { nx := fun _ H' => Q .non H', rt := Q } (start N vs) H) :
    FnG P w K mg base CX (k + 1) f (PySem.W.fnOf name qual params body scope dV kV doc pm an cdv ct) ps sp := by
  constructor
  · exact ar
  intro A outer s H args us vs Q E hG room env bind rel prem
  have long := ar _ _ _ _ prem
  have kin : K.In s.heap := env.mod.kin.keeps fun b o z => (env.bs b o z).1
  have nl : s.heap.NoLimit := env.mod.nolimit.keeps fun b o z => (env.bs b o z).1
  have kinds : ∀ y ∈ ps.zip us, scope.names.lookup y.1 = some .local ∨
      (scope.names.lookup y.1 = some .cell ∧
        ((cellsFrom (s.heap.objs.size + 1) scope.names []).lookup y.1).isSome = true) := by
    rintro ⟨n, v⟩ hy
    cases S.par n (List.of_mem_zip hy).1 with
    | inl q => exact .inl q
    | inr q => exact .inr ⟨q, PySem.W.cellsFrom_some _ _ _ (.inl q)⟩
  apply codeAny_call_function room.depth (kin _ _ lk) rfl S.co S.gen rfl (PySem.W.codeRec_of kin cin)
  apply bind
  apply wpAny_newFunctionEnv_cells S.kind kinds
  intro en hen s1 x
  subst hen
  refine ⟨nl.keeps x.toInCall.keep, ?_⟩
  apply codeAny_func
  obtain ⟨t, der, rd⟩ := bd A outer s H vs Q E hG (room.deeper _) prem
  have J := inv_start (CX := CX) (E := E) (mg := mg) S room.hd env long rel x
  apply wpAny_mono (der.run [] s1 (start N vs) H _ J rd)
  · intro fl s' hs
    cases fl with
    | ret u =>
      obtain ⟨v, _, H', J', rv, q⟩ := hs
      exact ⟨v, H', J'.os, J'.bare, J'.base, J'.hok, rv, q⟩
    | next =>
      obtain ⟨_, H', J', q⟩ := hs
      exact ⟨.non, H', J'.os, J'.bare, J'.base, J'.hok, rfl, q⟩
    | brk =>
      obtain ⟨_, _, _, q⟩ := hs
      exact q.elim
    | cont =>
      obtain ⟨_, _, _, q⟩ := hs
      exact q.elim
  · intro e s' hs
    exact hs
theorem okG {x qual : Str} {st : Stmt} {f : Addr} {fd : FuncData} {N ps : List Str} {k : Nat} {sp : Sp}
    (F : Fun K x qual st f fd) (S : FnScope N ps (defScope st))
    (ar : ∀ vs H Q E, sp vs H Q E → vs.length = ps.length)
    (bd : ∀ (cdv : Value) (A : Around) (outer : List Env) (s : Shared) (H : Hp) (vs : List V) (Q : VK) (E : XK),
      A.guards = some [] → Room k (A.deeper (envOfC qual (defScope st) s.heap.objs.size f cdv)) → sp vs H Q E →
      ∃ t, PSs (cxOf CX0 P w K mg base N qual (defScope st) f cdv A outer s H E).nox (defBody st) t ∧
        t { nx := fun _ H' => Q .non H', rt := Q } (start N vs) H) :
    FnG P w K mg base CX0 (k + 1) f fd ps sp := by
  obtain ⟨oc, od, kV, doc, pm, an, cdv, ct, osl, rfl, lk, cin⟩ := F.ex
  apply fnG_of lk cin S ar
  intro A outer s H vs Q E hG room prem
  obtain ⟨t, der, rd⟩ := bd cdv A outer s H vs Q E hG room prem
  exact ⟨t, der.nox, rd⟩
end

section
variable {X : Cx} {CX : CXT} {k : Nat} {f : Addr} {fd : FuncData} {ps : List Str} {sp : Sp} {dvs : List V}
  {ds : List Value} {E : XK} {x : Str} {p pos : Pos} {e : Expr} {es : List Expr} {t : TA}
theorem enterG {pins : List (Addr × Obj)} {σ : L2.St} {H : Hp} {s : Shared} {Q : VK} {us : List Value} {vs : List V}
    (F : FnG X.prog X.w X.K X.mg X.base CX k f fd ps sp) (hG : X.A.guards = some []) (hr : Room k X.A)
    (hb : Binds X.K fd ps ds) (hd : Vals dvs ds) (hx : Passes CX X E) (J : Inv X pins σ H s) (rel : Vals vs us)
    (prem : sp (vs ++ dvs) H Q E) :
    wpAny (model X.prog X.w) X.A (call (.ref f) us) (EP X pins σ Q) X.xe s := by
  have rel2 : Vals (vs ++ dvs) (us ++ ds) := rel.append hd
  have long : (us ++ ds).length = ps.length := rel2.length ▸ F.arity _ _ _ _ prem
  apply wpAny_call
  apply codeAny_mono (F.go X.A X.stack s H ⟨us, []⟩ (us ++ ds) (vs ++ dvs) Q E hG hr J.env0 (hb s us J.kIn long)
    rel2 prem)
  intro r s' hq
  match r, hq with
  | .error _, hq => exact hx pins σ H s _ s' J hq
  | .ok (.ret _), hq => exact J.after hq
  | .ok .next, hq => exact hq.elim
  | .ok .brk, hq => exact hq.elim
  | .ok .cont, hq => exact hq.elim
/-- f(e, ..) of a def that keeps its promise where no repr is under way -/
theorem pe_callG (F : FnG X.prog X.w X.K X.mg X.base CX k f fd ps sp) (hG : X.A.guards = some []) (hr : Room k X.A)
    (hg : Gl X x) (hm : X.mg x = some (.ref f)) (hk : PySem.W.keepIn X.K (.ref f) = true) (hb : Binds X.K fd ps ds)
    (hd : Vals dvs ds) (hx : Passes CX X E) (ha : PA X (e :: es) t)
    (hdb : (x == ("__debug__" : Str)) = false := by decide)
    (he : starEach (e :: es) X.env = (false, eval e X.env) :: starEach es X.env := by rfl)
    (hpl : (backTo pos (starEach es X.env)).any (·.1) = false := by rfl) :
    PE X (.Call (.Name x p) (e :: es) [] pos) (tCall sp dvs E t) := by
  constructor
  intro pins s σ H Q J prem
  have arg := ha.run pos pins s σ H _ J prem
  apply wpAny_Call_Name_kw
  apply ld_glob J hg hm (hd := hdb)
  apply PySem.W.callWith_K (h₀ := X.base) J.ok.mod.kin hk (he := he) (hplain := hpl)
  apply thn arg
  rintro us s1 ⟨vs, H1, J1, rel, q⟩
  exact ⟨J1.kIn, enterG F hG hr hb hd hx J1 rel q⟩
end
end Gd
namespace Gd
open PySem PySem.Spec PyProof.Rows L2
section
variable {P : Program} {w : World} {K : PySem.W.Frag} {mg mb : Str → Option Value} {CX : CXT} {k : Nat} {fa a : Addr}
  {fd : FuncData} {x : Str} {sp : Sp} {s₁ : Shared} {vs : List Value} {ns : List Int}
/-- the law's call from one abstract heap that tracks at most the script -/
theorem callOne (kin : K.In s₁.heap) (gl : s₁.heap.Ns mainGlobals mg) (bl : s₁.heap.Ns builtinsNs mb)
    (bb : ∀ x : Str, x ≠ "__name__" → mb x = bootBuiltins x) (nl : s₁.heap.NoLimit) (gn : s₁.gens = #[])
    (at_ : s₁.heap.get? a = some { cls := .type "list", data := .seq vs.toArray }) (room : Room k callerA)
    (F : ∀ base : Heap, K.In base → base.Ns mainGlobals mg → FnG P w K mg base CX k fa fd [x] sp)
    (bind : ∀ (s : Shared) (u : Value), BindsTo s fd ⟨[u], []⟩ [(x, u)])
    (H : Hp) (only : Only H) (prem : sp [.ref a] H (fun v _ => v = .bl true) fun _ _ _ => False)
    (noX : ∀ e s', CX [] H s₁ (fun _ _ _ => False) e s' → False)
    (hok : HOk P w H s₁.heap) (here : ∀ b, H b ≠ none → b = a) (out : H a ≠ none → K.lookup a = none) :
    codeAny (model P w) callerA (.call (.ref fa) ⟨[.ref a], []⟩)
      (fun r s' => r = .ok (.ret (.bool true)) ∧ OldK s₁.heap s'.heap ∧ s'.os = s₁.os ∧ AllBare s'.gens) s₁ := by
  have free : ∀ {b : Addr} {o : Obj} {es : Array DictEntry} {ep : Nat},
      s₁.heap.get? b = some o → o.data = .dict es ep → H b = none := by
    intro b o es ep z dd
    refine Classical.byContradiction fun q => ?_
    have hb := here b q
    rw [hb, at_] at z
    injection z with z
    rw [← z] at dd
    injection dd
  have nsOf : ∀ {b : Addr} {m : Str → Option Value}, s₁.heap.Ns b m → (hidT s₁.heap H).Ns b m := by
    rintro b m ⟨o, es, ep, z, dd, r⟩
    exact ⟨o, es, ep, hidT_get z (free z dd), dd, r⟩
  have kinB : K.In (hidT s₁.heap H) := by
    intro b o z
    refine hidT_get (kin b o z) (Classical.byContradiction fun q => ?_)
    have hb := here b q
    rw [hb] at z q
    rw [out q] at z
    injection z
  have modB : Mod K mg (hidT s₁.heap H) := by
    obtain ⟨mc, l1, l2⟩ := nl
    exact ⟨kinB, nsOf gl, ⟨mb, nsOf bl, bb⟩, ⟨mc, nsOf l1, l2⟩⟩
  have env : Env0 P w K mg (hidT s₁.heap H) callerA [] s₁ H := by
    refine ⟨rfl, modB, fun b o z => of_hidT z, Nat.le_of_eq (hidT_size _ _), trivial, ?_, hok, .of_eq gn⟩
    intro b hb
    exact absurd (show b ∈ ([] : List Addr) from hb) List.not_mem_nil
  have ran := (F _ kinB (nsOf gl)).go callerA [] s₁ H ⟨[.ref a], []⟩ [.ref a] [.ref a] _ _ rfl room env
    (bind s₁ (.ref a)) (.cons rfl .nil) prem
  apply codeAny_mono ran
  intro r s' q
  match r, q with
  | .error _, q => exact (noX _ _ q).elim
  | .ok .next, q => exact q.elim
  | .ok .brk, q => exact q.elim
  | .ok .cont, q => exact q.elim
  | .ok (.ret u), q =>
    obtain ⟨v, H', os, bare, un, hok', rv, ev⟩ := q
    have ev' : v = .bl true := ev
    subst ev'
    have hu : u = Value.bool true := rv
    subst hu
    refine ⟨rfl, ?_, os, bare⟩
    apply OldK.of_keep
    intro b o z
    have nob : b ∉ ([] : List Addr) := List.not_mem_nil
    cases q : H b with
    | none => exact un.keep b o z q nob nob
    | some u =>
      cases only b with
      | inl z0 =>
        rw [q] at z0
        injection z0
      | inr z0 =>
        obtain ⟨ob, xs, z1⟩ := z0
        have y1 := (hok b _ z1).1
        have y2 := (hok' b _ (un.frzs b ob _ z1)).1
        rw [z] at y1
        injection y1 with y1
        rw [y1]
        exact y2
theorem callG (kin : K.In s₁.heap) (gl : s₁.heap.Ns mainGlobals mg) (bl : s₁.heap.Ns builtinsNs mb)
    (bb : ∀ x : Str, x ≠ "__name__" → mb x = bootBuiltins x) (nl : s₁.heap.NoLimit) (gn : s₁.gens = #[])
    (at_ : s₁.heap.get? a = some { cls := .type "list", data := .seq vs.toArray }) (hin : IntsAre vs ns)
    (short : ns.length ≤ sizeLine) (room : Room k callerA)
    (F : ∀ base : Heap, K.In base → base.Ns mainGlobals mg → FnG P w K mg base CX k fa fd [x] sp)
    (bind : ∀ (s : Shared) (u : Value), BindsTo s fd ⟨[u], []⟩ [(x, u)])
    (prem : ∀ H : Hp, Only H → SqL K H a (ns.map V.int) → sp [.ref a] H (fun v _ => v = .bl true) fun _ _ _ => False)
    (noX : ∀ H e s', CX [] H s₁ (fun _ _ _ => False) e s' → False) :
    codeAny (model P w) callerA (.call (.ref fa) ⟨[.ref a], []⟩)
      (fun r s' => r = .ok (.ret (.bool true)) ∧ OldK s₁.heap s'.heap ∧ s'.os = s₁.os ∧ AllBare s'.gens) s₁ := by
  have rv := vals_ints hin
  have lens := hin.length
  cases hk : K.lookup a with
  | some o =>
    have z := kin a o hk
    rw [at_] at z
    injection z with z
    subst z
    have only : Only (fun _ => none) := fun _ => .inl rfl
    refine callOne kin gl bl bb nl gn at_ room F bind (fun _ => none) only (prem _ only ?_) (noX _)
      (fun b u z => ?_) (fun b z => absurd rfl z) fun z => absurd rfl z
    · refine .inr ⟨_, vs.toArray, _, hk, rfl, rfl, rfl, ?_, ?_⟩
      · rw [List.size_toArray, lens]
        exact short
      · simpa using rv
    · have z' : (none : Option HO) = some u := z
      injection z'
  | none =>
    let T : HO := .frz { cls := .type "list", data := .seq vs.toArray } (.lst (ns.map V.int))
    have only : Only (fun b => if b = a then some T else none) := fun b => by
      by_cases hb : b = a
      · exact .inr ⟨_, _, if_pos hb⟩
      · exact .inl (if_neg hb)
    refine callOne kin gl bl bb nl gn at_ room F bind (fun b => if b = a then some T else none) only
      (prem _ only (.inl (.inr ⟨{ cls := .type "list", data := .seq vs.toArray }, if_pos rfl⟩))) (noX _)
      (fun b u z => ?_) (fun b z => ?_) fun _ => hk
    · by_cases hb : b = a
      · have z' : some T = some u := (if_pos hb).symm.trans z
        injection z' with z'
        subst z'
        subst hb
        refine ⟨at_, ?_, vs, _, rv, at_⟩
        rw [List.length_map]
        exact short
      · have z' : (none : Option HO) = some u := (if_neg hb).symm.trans z
        injection z'
    · refine Classical.byContradiction fun hb => z (if_neg hb)
end
/-- the goal that k_head leaves, from the law's promise under FnG -/
theorem walkG {l : PySem.W.OpenLaw} {n k : Nat} {q : Program} {loose : List Str} {XP : (Str → Option Value) → Heap → Prop}
    {YP : World → Heap → Prop} {d : DefRec} {K : Params → PySem.W.Frag} {CX : World → CXT} {sp : World → Sp} {x : Str}
    (most : l.most = some n) (line : n ≤ sizeLine) (nod : d.params.defaults = []) (room : Room k callerA)
    (kin : ∀ (w : World) (h : Heap), YP w h → (K w.params).In h)
    (F : ∀ (w : World) (mg : Str → Option Value) (fa : Addr) (h : Heap),
      (K w.params).In h → h.Ns mainGlobals mg → mg d.name = some (.ref fa) →
      ∃ fd : FuncData, (∀ (s : Shared) (u : Value), BindsTo s fd ⟨[u], []⟩ [(x, u)]) ∧
        ∀ base : Heap, (K w.params).In base → base.Ns mainGlobals mg →
          FnG l.prog w (K w.params) mg base (CX w) k fa fd [x] (sp w))
    (prem : ∀ (w : World) (H : Hp) (a : Addr) (ns : List Int), ns.length ≤ n → Only H →
      SqL (K w.params) H a (ns.map V.int) → sp w [.ref a] H (fun v _ => v = .bl true) fun _ _ _ => False)
    (noX : ∀ (w : World) (H : Hp) (s : Shared) (e : Value) (s' : Shared),
      CX w [] H s (fun _ _ _ => False) e s' → False) :
    PySem.W.WalkO q loose XP YP l.row.toRowW d [] (fun f vs => PySem.call f vs) := by
  apply Att.attach_call most nod
  intro w s₀ s₁ mg mb fa o pm cd doc a vs ns G Y ho hd hcd hmg hobj hints hlen hg
  have kx := kin w _ Y
  obtain ⟨fd, hb, hF⟩ := F w mg fa _ kx G.T.g hmg
  refine callG kx G.T.g G.T.b G.T.builtins G.T.nolimit hg hobj hints (Nat.le_trans hlen line) room hF hb ?_ ?_
  · intro H hO hS
    exact prem w H a ns hlen hO hS
  · intro H e s'
    exact noX w H s₁ e s'
end Gd
namespace Gd
open PySem PySem.Spec PyProof.Rows L2
/-- plain data, or an empty dict -/
inductive D1 (K : PySem.W.Frag) (H : Hp) : V → PyData → Prop
  | dp {v : V} {d : PyData} (h : Dp K H v d) : D1 K H v d
  | emp {a : Addr} (h : H a = some (.dK [])) : D1 K H (.ref a) (.dict [])
inductive D1s (K : PySem.W.Frag) (H : Hp) : List V → List PyData → Prop
  | nil : D1s K H [] []
  | cons {v : V} {vs : List V} {d : PyData} {ds : List PyData} : D1 K H v d → D1s K H vs ds → D1s K H (v :: vs) (d :: ds)
/-- such, or a list or a tuple of such -/
inductive D2 (K : PySem.W.Frag) (H : Hp) : V → PyData → Prop
  | d1 {v : V} {d : PyData} (h : D1 K H v d) : D2 K H v d
  | lst {a : Addr} {xs : List V} {ds : List PyData} : SqL K H a xs → D1s K H xs ds → D2 K H (.ref a) (.list ds)
  | tup {a : Addr} {xs : List V} {ds : List PyData} : SqT K H a xs → D1s K H xs ds → D2 K H (.ref a) (.tuple ds)

mutual
theorem noDict {K : PySem.W.Frag} {H : Hp} : ∀ {v : V} {d : PyData}, Dp K H v d → d.hasDict = false
  | _, _, .non => by simp only [PyData.hasDict]
  | _, _, .bl _ => by simp only [PyData.hasDict]
  | _, _, .int _ => by simp only [PyData.hasDict]
  | _, _, .str _ => by simp only [PyData.hasDict]
  | _, _, .lst _ ha => by
    simp only [PyData.hasDict]
    exact noDicts ha
  | _, _, .tup _ ha => by
    simp only [PyData.hasDict]
    exact noDicts ha
theorem noDicts {K : PySem.W.Frag} {H : Hp} : ∀ {vs : List V} {ds : List PyData}, DpAll K H vs ds → PyData.hasDictAll ds = false
  | _, _, .nil => by simp only [PyData.hasDictAll]
  | _, _, .cons h1 h2 => by simp only [PyData.hasDictAll, noDict h1, noDicts h2, Bool.or_self]
end

section
variable {X : Cx} {pins : List (Addr × Obj)} {σ : L2.St} {H : Hp} {s : Shared}
theorem D1.rd (I : Inv X pins σ H s) {v : V} {d : PyData} {u : Value} (h : D1 X.K H v d) (r : RelV v u) :
    ∃ as, Reads s.heap u d as ∧ (d.hasDict = true → sysModules ∉ as) := by
  cases h with
  | dp h =>
    obtain ⟨as, q⟩ := Dp.reads I d v u h r
    exact ⟨as, q, PyData.noDict_hsm (noDict h)⟩
  | @emp a h =>
    cases (show u = Value.ref a from r)
    obtain ⟨_, hs, vs, kv, o, es, ep, q⟩ := (show ObjOk X.prog X.w H s.heap a (.dK []) from I.hok a _ h)
    cases kv
    obtain ⟨e1, e2, e3, e4⟩ := q
    have e5 : es.toList = [] := by
      have e6 := e4.2.1
      generalize es.toList = l at e6 ⊢
      cases e6
      rfl
    refine ⟨_, Reads.dict (kvs := []) (as := []) (bs := []) e1 e2.1 e3 ?_ ?_, fun _ => ?_⟩
    · rw [e5]
      exact .nil
    · rw [e5]
      exact .nil
    · intro z
      have z' : sysModules = a := by simpa using z
      rw [← z'] at hs
      simp at hs
theorem D1s.rd (I : Inv X pins σ H s) : ∀ {vs : List V} {ds : List PyData} {us : List Value}, D1s X.K H vs ds → Vals vs us →
    ∃ as, ReadsAll s.heap us ds as
  | _, _, _, .nil, .nil => ⟨_, .nil⟩
  | _, _, _, .cons h1 h2, .cons r1 r2 => by
    obtain ⟨as, q1, _⟩ := h1.rd I r1
    obtain ⟨bs, q2⟩ := D1s.rd I h2 r2
    exact ⟨_, .cons q1 q2⟩
theorem D1.one (I : Inv X pins σ H s) {v : V} {d : PyData} {u : Value} (h : D1 X.K H v d) (r : RelV v u)
    (hs : d.showable = true) (hz : d.shown.length ≤ sizeLine) :
    ∃ bs, ReadAtMost s.heap d.depth bs ∧ ReprK X.prog X.w bs s.heap d.depth u d.shown := by
  obtain ⟨as, q, hm⟩ := h.rd I r
  exact ReprK.of_reads q hs hm hz
theorem D1s.each (I : Inv X pins σ H s) {n : Nat} : ∀ {vs : List V} {ds : List PyData} {us : List Value}, D1s X.K H vs ds → Vals vs us →
    PyData.showableAll ds = true → (∀ t ∈ PyData.shownAll ds, t.length ≤ sizeLine) → PyData.depthAll ds ≤ n →
    ∃ bs, ReadAtMost s.heap n bs ∧ ReprAllK X.prog X.w bs s.heap n us (PyData.shownAll ds)
  | _, _, _, .nil, .nil, _, _, _ => ⟨[], (fun _ z => nomatch z), by simp only [PyData.shownAll]; exact .nil⟩
  | _, _, _, .cons (d := d) (ds := ds) h1 h2, .cons r1 r2, hs, hz, hn => by
    have hs' : d.showable = true ∧ PyData.showableAll ds = true := by simpa [PyData.showableAll] using hs
    simp only [PyData.depthAll] at hn
    simp only [PyData.shownAll] at hz ⊢
    obtain ⟨b1, m1, k1⟩ := h1.one I r1 hs'.1 (hz _ List.mem_cons_self)
    obtain ⟨b2, m2, k2⟩ := D1s.each I h2 r2 hs'.2 (fun t ht => hz t (List.mem_cons_of_mem _ ht)) (by omega : PyData.depthAll ds ≤ n)
    refine ⟨b1 ++ b2, (m1.mono (by omega)).append m2, .cons ((k1.more fun b hb => List.mem_append_left _ hb).level_le (by omega)) (k2.more_le (fun b hb => List.mem_append_right _ hb) (Nat.le_refl _))⟩
end

/-- repr of such data where no repr is under way -/
def rRepr (K : PySem.W.Frag) : List V → Hp → VK → Prop := fun xs H Q => ∃ v d, xs = [v] ∧ D2 K H v d ∧ d.showable = true ∧
  d.shown.length ≤ sizeLine ∧ d.depth ≤ 60 ∧ Q (.str d.shown) H
section
variable {X : Cx}
theorem call_repr (hG : X.A.guards = some []) (hu : X.A.units + 64 < cLine) : CallR X (.builtin "repr") (rRepr X.K) := by
  intro pins s σ H xs us Q I rel h
  obtain ⟨v, d, rfl, hd, hs, hz, hdep, q⟩ := h
  obtain ⟨u, rfl, r⟩ := vals1 rel
  cases hd with
  | d1 h1 =>
    cases h1 with
    | dp hp =>
      cases hp with
      | non =>
        cases (show u = Value.none from r)
        simp only [PyData.shown] at q
        exact PySem.P.repr_of_none ⟨.str _, H, I.tok _, ⟨_, rfl⟩, q⟩
      | bl b =>
        cases (show u = Value.bool b from r)
        simp only [PyData.shown] at q
        exact PySem.P.repr_of_bool ⟨.str _, H, I.tok _, ⟨_, rfl⟩, q⟩
      | int i =>
        obtain ⟨t, rfl⟩ := (show ∃ t, u = Value.int i t from r)
        simp only [PyData.shown] at q
        exact PySem.P.repr_of_int (by simpa [PyData.showable] using hs) ⟨.str _, H, I.tok _, ⟨_, rfl⟩, q⟩
      | str x =>
        obtain ⟨t, rfl⟩ := (show ∃ t, u = Value.str x t from r)
        simp only [PyData.shown] at q hz
        exact PySem.P.repr_of_str ⟨.str _, H, I.tok _, ⟨_, rfl⟩, q⟩ hz
      | @lst a ys ds hl ha =>
        cases (show u = Value.ref a from r)
        obtain ⟨as, rd, hm⟩ := (D1.dp (.lst hl ha) : D1 X.K H (.ref a) (.list ds)).rd I rfl
        exact repr_of_reads' rd hs hm hG (by omega) (fun _ _ z => z) (fun h' u tk hk => ⟨.str _, H, I.kept hk, ⟨_, rfl⟩, q⟩) hz
      | @tup a ys ds hl ha =>
        cases (show u = Value.ref a from r)
        obtain ⟨as, rd, hm⟩ := (D1.dp (.tup hl ha) : D1 X.K H (.ref a) (.tuple ds)).rd I rfl
        exact repr_of_reads' rd hs hm hG (by omega) (fun _ _ z => z) (fun h' u tk hk => ⟨.str _, H, I.kept hk, ⟨_, rfl⟩, q⟩) hz
    | @emp a ha =>
      cases (show u = Value.ref a from r)
      obtain ⟨as, rd, hm⟩ := (D1.emp ha : D1 X.K H (.ref a) (.dict [])).rd I rfl
      exact repr_of_reads' rd hs hm hG (by omega) (fun _ _ z => z) (fun h' u tk hk => ⟨.str _, H, I.kept hk, ⟨_, rfl⟩, q⟩) hz
  | @lst a ys ds hl ha =>
    cases (show u = Value.ref a from r)
    obtain ⟨its, rv, ⟨o, n, ho, hc, _, ho2⟩, _⟩ := I.list hl
    obtain ⟨as, rda⟩ := ha.rd I rv
    have hz' : (listText (PyData.shownAll ds)).length ≤ sizeLine := by simpa only [PyData.shown] using hz
    simp only [PyData.depth] at hdep
    obtain ⟨bs, hb, hk⟩ := ha.each I rv (by simpa [PyData.showable] using hs) (fun t ht => Nat.le_trans (listText_mem_le ht) hz') (Nat.le_refl _)
    have hna : a ∉ bs := not_mem_of_deeper (.list ho hc ho2 rda) (by simp only [PyData.depth]; omega) hb
    simp only [PyData.shown] at q
    have ty : s.TypeIs (.ref a) "list" := ⟨o, ho, hc⟩
    have fin : ∀ h' u tk, (∀ b o, s.heap.get? b = some o → h'.get? b = some o) →
        EP X pins σ Q (.str (listText (PyData.shownAll ds)) u) { s with heap := h', toks := tk } :=
      fun h' u tk hk => ⟨.str _, H, I.kept hk, ⟨_, rfl⟩, q⟩
    refine call_repr_slot (by omega) ty PySem.F.slot_list_repr.toG ?_
    cases its with
    | nil =>
      cases rda
      simp only [PyData.shownAll, listText_nil] at fin
      exact call_list_repr_empty ty ho ho2 ⟨_, _, rfl, fin s.heap _ _ fun _ _ e => e⟩
    | cons x l =>
      exact call_list_reprK ho hc ho2 hna (by simpa using hk.length_eq) (fun i y e => hk.item i y (by simpa using e)) hG
        (fun b _ => Clear.nil b) (by show X.A.units + 1 + (_ + 1) < cLine; omega) (fun _ _ z => z) (fun h' u tk hk => ⟨_, _, rfl, fin h' u tk hk⟩) hz'
  | @tup a ys ds hl ha =>
    cases (show u = Value.ref a from r)
    obtain ⟨its, rv, ⟨o, ho, hc, n, ho2⟩, _⟩ := I.tuple hl
    obtain ⟨as, rda⟩ := ha.rd I rv
    have hz' : (tupleText (PyData.shownAll ds)).length ≤ sizeLine := by simpa only [PyData.shown] using hz
    simp only [PyData.depth] at hdep
    obtain ⟨bs, hb, hk⟩ := ha.each I rv (by simpa [PyData.showable] using hs) (fun t ht => Nat.le_trans (tupleText_mem_le ht) hz') (Nat.le_refl _)
    have hna : a ∉ bs := not_mem_of_deeper (.tuple ho hc ho2 rda) (by simp only [PyData.depth]; omega) hb
    simp only [PyData.shown] at q
    have ty : s.TypeIs (.ref a) "tuple" := ⟨o, ho, hc⟩
    refine call_repr_slot (by omega) ty PySem.F.slot_tuple_repr ?_
    exact call_tuple_reprK ho hc ho2 hna (by simpa using hk) hG (fun b _ => Clear.nil b) (by show X.A.units + 1 + (_ + 1) < cLine; omega) (fun _ _ z => z)
      (fun h' u tk hk => ⟨_, _, rfl, ⟨.str _, H, I.kept hk, ⟨_, rfl⟩, q⟩⟩) hz'
end
end Gd
namespace Gd
open PySem PySem.Spec PyProof.Rows L2
/-- a def of the top, with its name -/
structure DefAt (K : PySem.W.Frag) (mg : Str → Option Value) (x : Str) (st : Stmt) (ps : List Str) : Prop where
  ex : ∃ (f : Addr) (fd : FuncData), Fun K x x st f fd ∧ mg x = some (.ref f) ∧ Binds K fd ps []
/-- a def by its name, its promise kept where no repr is under way -/
structure CalG (P : Program) (w : World) (K : PySem.W.Frag) (mg : Str → Option Value) (base : Heap) (k : Nat) (x : Str) (sp : Sp) : Prop where
  ex : ∃ (f : Addr) (fd : FuncData) (ps : List Str), FnG P w K mg base CX0 k f fd ps sp ∧ mg x = some (.ref f) ∧
    PySem.W.keepIn K (.ref f) = true ∧ Binds K fd ps []
section
variable {P : Program} {w : World} {K : PySem.W.Frag} {mg : Str → Option Value} {base : Heap}
theorem DefAt.cal {x : Str} {st : Stmt} {N ps : List Str} {k : Nat} {sp : Sp} (D : DefAt K mg x st ps) (S : FnScope N ps (defScope st))
    (ar : ∀ vs H Q E, sp vs H Q E → vs.length = ps.length)
    (bd : ∀ (f : Addr) (cdv : Value) (A : Around) (outer : List Env) (s : Shared) (H : Hp) (vs : List V) (Q : VK) (E : XK),
      A.guards = some [] → Room k (A.deeper (envOfC x (defScope st) s.heap.objs.size f cdv)) → sp vs H Q E →
      ∃ t, PSs (cxOf CX0 P w K mg base N x (defScope st) f cdv A outer s H E).nox (defBody st) t ∧
        t { nx := fun _ H' => Q .non H', rt := Q } (start N vs) H) : CalG P w K mg base (k + 1) x sp := by
  obtain ⟨f, fd, F, m, b⟩ := D.ex
  exact ⟨f, fd, ps, okG F S ar (bd f), m, F.kp, b⟩
theorem DefAt.mk' {X : K.In base} {x : Str} {st : Stmt} {ps : List Str} {f : Addr} {oc : Value} {od an : Option Addr} {osl : Array (Option Value)} {kV doc pm cdv ct : Value}
    (m : mg x = some (.ref f))
    (l : K.lookup f = some ⟨oc, od, .func (PySem.W.fnOf x x (defArgs st) (defBody st) (defScope st) .none kV doc pm an cdv ct), osl⟩)
    (c : PySem.W.codeIn K cdv x = true) (k : PySem.W.keepIn K (.ref f) = true)
    (b : ∀ (kV doc pm : Value) (an : Option Addr) (cdv ct : Value) (us : List Value), us.length = ps.length →
      bindArgs (PySem.W.fnOf x x (defArgs st) (defBody st) (defScope st) .none kV doc pm an cdv ct) ⟨us, []⟩ = pure (ps.zip us)) :
    DefAt K mg x st ps := by
  have F := fun_mk (st := st) l c k
  exact ⟨f, _, F, m, F.binds b⟩
end
section
variable {X : Cx} {k : Nat} {sp : Sp} {x : Str} {p pos : Pos} {e : Expr} {es : List Expr} {t : TA}
theorem pe_g (c : CalG X.prog X.w X.K X.mg X.base k x sp) (hG : X.A.guards = some []) (hr : Room k X.A) (hg : Gl X x)
    (ha : PA X (e :: es) t) (hdb : (x == ("__debug__" : Str)) = false := by decide)
    (he : starEach (e :: es) X.env = (false, eval e X.env) :: starEach es X.env := by rfl)
    (hpl : (backTo pos (starEach es X.env)).any (·.1) = false := by rfl) :
    PE X (.Call (.Name x p) (e :: es) [] pos) (tCall sp [] E0 t) := by
  obtain ⟨f, fd, ps, F, m, kp, b⟩ := c.ex
  exact pe_callG F hG hr hg m kp b .nil pass0 ha hdb he hpl
/-- a module's constant, a whole number -/
def GInt (mg : Str → Option Value) (x : Str) (n : Int) : Prop := ∃ t, mg x = some (.int n t)
theorem pe_gi {n : Int} (hg : Gl X x) (h : GInt X.mg x n) (hd : (x == ("__debug__" : Str)) = false := by decide) : PE X (.Name x pos) (tC (.int n)) := by
  obtain ⟨t, h⟩ := h
  exact pe_glob hg h ⟨t, rfl⟩ hd
/-- a module's constant, a text -/
def GStr (mg : Str → Option Value) (x : Str) (z : Str) : Prop := ∃ t, mg x = some (.str z t)
theorem pe_gs {z : Str} (hg : Gl X x) (h : GStr X.mg x z) (hd : (x == ("__debug__" : Str)) = false := by decide) : PE X (.Name x pos) (tC (.str z)) := by
  obtain ⟨t, h⟩ := h
  exact pe_glob hg h ⟨t, rfl⟩ hd
theorem hu64 {A : Around} (hr : Room k A) : A.units + 64 < cLine := by
  have := hr.un
  omega
/-- x is True, x is False, for any x -/
def isB (x : V) (b : Bool) : Bool := match x with
  | .bl a => a == b
  | _ => false
theorem op_isB : OpR X (compareOp .Is) (fun x y H Q => ∃ b, y = .bl b ∧ Q (.bl (isB x b)) H) := by
  intro pins s σ H x y v u Q I rx ry h
  obtain ⟨b, rfl, q⟩ := h
  cases (show u = Value.bool b from ry)
  cases x with
  | non =>
    cases (show v = Value.none from rx)
    exact wpAny_is_other rfl (fun z => nomatch z) ⟨.bl false, H, I, rfl, q⟩
  | bl a =>
    cases (show v = Value.bool a from rx)
    by_cases e : a = b
    · subst e
      refine wpAny_is_self rfl ⟨.bl true, H, I, rfl, ?_⟩
      simpa [isB] using q
    · refine wpAny_is_other rfl (fun z => e (Value.bool.inj z)) ⟨.bl false, H, I, rfl, ?_⟩
      have e2 : isB (.bl a) b = false := beq_eq_false_iff_ne.mpr e
      rw [e2] at q
      exact q
  | int i =>
    obtain ⟨t, rfl⟩ := (show ∃ t, v = Value.int i t from rx)
    exact wpAny_is_other rfl (fun z => nomatch z) ⟨.bl false, H, I, rfl, q⟩
  | str i =>
    obtain ⟨t, rfl⟩ := (show ∃ t, v = Value.str i t from rx)
    exact wpAny_is_other rfl (fun z => nomatch z) ⟨.bl false, H, I, rfl, q⟩
  | byt i =>
    obtain ⟨t, rfl⟩ := (show ∃ t, v = Value.bytes i t from rx)
    exact wpAny_is_other rfl (fun z => nomatch z) ⟨.bl false, H, I, rfl, q⟩
  | flt i =>
    obtain ⟨t, rfl⟩ := (show ∃ t, v = Value.float i t from rx)
    exact wpAny_is_other rfl (fun z => nomatch z) ⟨.bl false, H, I, rfl, q⟩
  | ref i =>
    cases (show v = Value.ref i from rx)
    exact wpAny_is_other rfl (fun z => nomatch z) ⟨.bl false, H, I, rfl, q⟩
  | ty i =>
    cases (show v = Value.type i from rx)
    exact wpAny_is_other rfl (fun z => nomatch z) ⟨.bl false, H, I, rfl, q⟩
theorem op_isntB : OpR X (compareOp .IsNot) (fun x y H Q => ∃ b, y = .bl b ∧ Q (.bl (!isB x b)) H) := by
  intro pins s σ H x y v u Q I rx ry h
  obtain ⟨b, rfl, q⟩ := h
  cases (show u = Value.bool b from ry)
  cases x with
  | non =>
    cases (show v = Value.none from rx)
    exact wpAny_isNot_other rfl (fun z => nomatch z) ⟨.bl true, H, I, rfl, q⟩
  | bl a =>
    cases (show v = Value.bool a from rx)
    by_cases e : a = b
    · subst e
      refine wpAny_isNot_self rfl ⟨.bl false, H, I, rfl, ?_⟩
      simpa [isB] using q
    · refine wpAny_isNot_other rfl (fun z => e (Value.bool.inj z)) ⟨.bl true, H, I, rfl, ?_⟩
      have e2 : isB (.bl a) b = false := beq_eq_false_iff_ne.mpr e
      rw [e2] at q
      exact q
  | int i =>
    obtain ⟨t, rfl⟩ := (show ∃ t, v = Value.int i t from rx)
    exact wpAny_isNot_other rfl (fun z => nomatch z) ⟨.bl true, H, I, rfl, q⟩
  | str i =>
    obtain ⟨t, rfl⟩ := (show ∃ t, v = Value.str i t from rx)
    exact wpAny_isNot_other rfl (fun z => nomatch z) ⟨.bl true, H, I, rfl, q⟩
  | byt i =>
    obtain ⟨t, rfl⟩ := (show ∃ t, v = Value.bytes i t from rx)
    exact wpAny_isNot_other rfl (fun z => nomatch z) ⟨.bl true, H, I, rfl, q⟩
  | flt i =>
    obtain ⟨t, rfl⟩ := (show ∃ t, v = Value.float i t from rx)
    exact wpAny_isNot_other rfl (fun z => nomatch z) ⟨.bl true, H, I, rfl, q⟩
  | ref i =>
    cases (show v = Value.ref i from rx)
    exact wpAny_isNot_other rfl (fun z => nomatch z) ⟨.bl true, H, I, rfl, q⟩
  | ty i =>
    cases (show v = Value.type i from rx)
    exact wpAny_isNot_other rfl (fun z => nomatch z) ⟨.bl true, H, I, rfl, q⟩
end
/-! names of the built-ins -/
theorem boot_len_ : bootBuiltins "len" = some (.builtin "len") := by decide +kernel
theorem boot_max_ : bootBuiltins "max" = some (.builtin "max") := by decide +kernel
theorem boot_min_ : bootBuiltins "min" = some (.builtin "min") := by decide +kernel
theorem boot_abs_ : bootBuiltins "abs" = some (.builtin "abs") := by decide +kernel
theorem boot_all_ : bootBuiltins "all" = some (.builtin "all") := by decide +kernel
theorem boot_repr_ : bootBuiltins "repr" = some (.builtin "repr") := by decide +kernel
theorem boot_isinstance_ : bootBuiltins "isinstance" = some (.builtin "isinstance") := by decide +kernel
theorem boot_int_ : bootBuiltins "int" = some (.type "int") := by decide +kernel
theorem boot_bool_ : bootBuiltins "bool" = some (.type "bool") := by decide +kernel
theorem boot_str_ : bootBuiltins "str" = some (.type "str") := by decide +kernel
theorem boot_list_ : bootBuiltins "list" = some (.type "list") := by decide +kernel
theorem boot_tuple_ : bootBuiltins "tuple" = some (.type "tuple") := by decide +kernel
theorem boot_dict_ : bootBuiltins "dict" = some (.type "dict") := by decide +kernel

/-! ### the box of a cell: what is drawn of it is any number below the bound -/
def BoxAt (H : Hp) (b : Addr) : Prop := ∃ x y z : Int, 0 ≤ x ∧ 0 ≤ y ∧ y < 2147483629 ∧ H b = some (.lst [.int x, .int y, .int z])
/-- all but the box is kept -/
def Kp (b : Addr) (H H' : Hp) : Prop := ∀ c o, c ≠ b → H c = some o → H' c = some o
theorem Kp.refl {b : Addr} {H : Hp} : Kp b H H := fun _ _ _ z => z
theorem Kp.trans {b : Addr} {H H1 H2 : Hp} (h : Kp b H H1) (k : Kp b H1 H2) : Kp b H H2 := fun c o n z => k c o n (h c o n z)
theorem Kp.upd {b p : Addr} {H H' : Hp} {o : HO} (h : Kp b H H') (n : H' p = none) : Kp b H (upd H' p o) := fun c u hc z => by
  have z2 := h c u hc z
  rw [upd_ne (ne_of_none z2 n)]
  exact z2
theorem BoxAt.upd {b p : Addr} {H : Hp} {o : HO} (h : BoxAt H b) (n : H p = none) : BoxAt (L2.upd H p o) b := by
  obtain ⟨x, y, z, h1, h2, h3, h4⟩ := h
  refine ⟨x, y, z, h1, h2, h3, ?_⟩
  rw [upd_ne (ne_of_none h4 n)]
  exact h4
theorem BoxAt.ne {b p : Addr} {H : Hp} (h : BoxAt H b) (n : H p = none) : p ≠ b := by
  obtain ⟨x, y, z, _, _, _, h4⟩ := h
  exact (ne_of_none h4 n).symm
def spTake : Sp := fun vs H Q _ => ∃ (b : Addr) (m : Int), vs = [.ref b, .int m] ∧ BoxAt H b ∧ 0 < m ∧ m ≤ 1000000000 ∧
  ∀ (d : Int) (H' : Hp), 0 ≤ d → d < m → BoxAt H' b → (∀ c, c ≠ b → H' c = H c) → Q (.int d) H'
def spCell (K : PySem.W.Frag) : Sp := fun vs H Q _ => ∃ (a : Addr) (ns : List Int) (k : Int), vs = [.ref a, .int k] ∧ SqL K H a (ns.map V.int) ∧
  ns.length ≤ 63 ∧ 0 ≤ k ∧ ∀ n : Int, Q (.int n) H
def spBox : Sp := fun vs H Q _ => ∃ n : Int, vs = [.int n] ∧ ∀ (b : Addr) (H' : Hp), H b = none → BoxAt H' b → (∀ c, c ≠ b → H' c = H c) → Q (.ref b) H'
theorem kp_of {b : Addr} {H H' : Hp} (h : ∀ c, c ≠ b → H' c = H c) : Kp b H H' := fun c o n z => by
  rw [h c n]
  exact z
theorem atI_ints {ns : List Int} {k : Int} (h0 : 0 ≤ k) (h1 : k < ns.length) : ∃ n, atI (ns.map V.int) k = some (.int n) := by
  obtain ⟨j, rfl⟩ : ∃ j : Nat, k = j := ⟨k.toNat, by omega⟩
  have hj : j < ns.length := by omega
  refine ⟨ns[j], atI_nat ?_⟩
  rw [List.getElem?_map, List.getElem?_eq_getElem hj]
  rfl
end Gd
namespace Gd
open PySem PySem.Spec PyProof.Rows L2
/-! ### data by its shape -/
/-- all but what N names is kept -/
def Kq (N : Addr → Prop) (H H' : Hp) : Prop := ∀ c o, ¬ N c → H c = some o → H' c = some o
mutual
/-- the value shows the data d, laid in objects that N does not name -/
inductive Da (H : Hp) (N : Addr → Prop) : V → PyData → Prop
  | non : Da H N .non .none
  | bl (b : Bool) : Da H N (.bl b) (.bool b)
  | int (i : Int) : Da H N (.int i) (.int i)
  | str (x : Str) : Da H N (.str x) (.str x)
  | lst {a : Addr} {xs : List V} {ds : List PyData} : ¬ N a → H a = some (.lst xs) → Das H N xs ds → Da H N (.ref a) (.list ds)
  | tup {a : Addr} {xs : List V} {ds : List PyData} : ¬ N a → H a = some (.tup xs) → Das H N xs ds → Da H N (.ref a) (.tuple ds)
inductive Das (H : Hp) (N : Addr → Prop) : List V → List PyData → Prop
  | nil : Das H N [] []
  | cons {v : V} {vs : List V} {d : PyData} {ds : List PyData} : Da H N v d → Das H N vs ds → Das H N (v :: vs) (d :: ds)
end
mutual
theorem Da.kq {H H' : Hp} {N : Addr → Prop} (k : Kq N H H') : ∀ {v : V} {d : PyData}, Da H N v d → Da H' N v d
  | _, _, .non => .non
  | _, _, .bl b => .bl b
  | _, _, .int i => .int i
  | _, _, .str x => .str x
  | _, _, .lst n h s => .lst n (k _ _ n h) (Das.kq k s)
  | _, _, .tup n h s => .tup n (k _ _ n h) (Das.kq k s)
theorem Das.kq {H H' : Hp} {N : Addr → Prop} (k : Kq N H H') : ∀ {vs : List V} {ds : List PyData}, Das H N vs ds → Das H' N vs ds
  | _, _, .nil => .nil
  | _, _, .cons h s => .cons (Da.kq k h) (Das.kq k s)
end
mutual
theorem Da.wk {H : Hp} {N M : Addr → Prop} (k : ∀ a, M a → N a) : ∀ {v : V} {d : PyData}, Da H N v d → Da H M v d
  | _, _, .non => .non
  | _, _, .bl b => .bl b
  | _, _, .int i => .int i
  | _, _, .str x => .str x
  | _, _, .lst n h s => .lst (fun z => n (k _ z)) h (Das.wk k s)
  | _, _, .tup n h s => .tup (fun z => n (k _ z)) h (Das.wk k s)
theorem Das.wk {H : Hp} {N M : Addr → Prop} (k : ∀ a, M a → N a) : ∀ {vs : List V} {ds : List PyData}, Das H N vs ds → Das H M vs ds
  | _, _, .nil => .nil
  | _, _, .cons h s => .cons (Da.wk k h) (Das.wk k s)
end
mutual
theorem Da.dp {K : PySem.W.Frag} {H : Hp} {N : Addr → Prop} : ∀ {v : V} {d : PyData}, Da H N v d → Dp K H v d
  | _, _, .non => .non
  | _, _, .bl b => .bl b
  | _, _, .int i => .int i
  | _, _, .str x => .str x
  | _, _, .lst _ h s => .lst (SqL.of h) (Das.dp s)
  | _, _, .tup _ h s => .tup (SqT.of h) (Das.dp s)
theorem Das.dp {K : PySem.W.Frag} {H : Hp} {N : Addr → Prop} : ∀ {vs : List V} {ds : List PyData}, Das H N vs ds → DpAll K H vs ds
  | _, _, .nil => .nil
  | _, _, .cons h s => .cons (Da.dp h) (Das.dp s)
end
theorem Das.len {H : Hp} {N : Addr → Prop} : ∀ {vs : List V} {ds : List PyData}, Das H N vs ds → vs.length = ds.length
  | _, _, .nil => rfl
  | _, _, .cons _ s => by rw [List.length_cons, List.length_cons, s.len]
theorem Das.get {H : Hp} {N : Addr → Prop} : ∀ {vs : List V} {ds : List PyData} {i : Nat} {v : V}, Das H N vs ds → vs[i]? = some v → ∃ d, ds[i]? = some d ∧ Da H N v d
  | _, _, 0, _, .cons h _, e => ⟨_, rfl, by
      have e2 := Option.some.inj e
      subst e2
      exact h⟩
  | _, _, i + 1, v, .cons _ s, e => s.get (i := i) (v := v) e
  | _, _, i, _, .nil, e => by simp at e
theorem Das.snoc {H : Hp} {N : Addr → Prop} {v : V} {d : PyData} : ∀ {vs : List V} {ds : List PyData}, Das H N vs ds → Da H N v d → Das H N (vs ++ [v]) (ds ++ [d])
  | _, _, .nil, h => .cons h .nil
  | _, _, .cons g s, h => .cons g (s.snoc h)
theorem Das.set {H : Hp} {N : Addr → Prop} {v : V} {d : PyData} : ∀ {vs : List V} {ds : List PyData} {i : Nat}, Das H N vs ds → Da H N v d → Das H N (vs.set i v) (ds.set i d)
  | _, _, _, .nil, _ => .nil
  | _, _, 0, .cons _ s, h => .cons h s
  | _, _, _ + 1, .cons g s, h => .cons g (s.set h)

theorem same_sqT {K : PySem.W.Frag} {H H' : Hp} {a : Addr} {xs : List V} (s : Same H H') (h : SqT K H a xs) : SqT K H' a xs := by
  rcases h with h | h
  · refine .inl ?_
    rcases h with h | ⟨o, h⟩
    · exact .inl (s _ _ h)
    · exact .inr ⟨o, s _ _ h⟩
  · exact .inr h
mutual
theorem dpSame {K : PySem.W.Frag} {H H' : Hp} (s : Same H H') : ∀ {v : V} {d : PyData}, Dp K H v d → Dp K H' v d
  | _, _, .non => .non
  | _, _, .bl b => .bl b
  | _, _, .int i => .int i
  | _, _, .str x => .str x
  | _, _, .lst h r => .lst (s.seq h) (dpSames s r)
  | _, _, .tup h r => .tup (same_sqT s h) (dpSames s r)
theorem dpSames {K : PySem.W.Frag} {H H' : Hp} (s : Same H H') : ∀ {vs : List V} {ds : List PyData}, DpAll K H vs ds → DpAll K H' vs ds
  | _, _, .nil => .nil
  | _, _, .cons h r => .cons (dpSame s h) (dpSames s r)
end
theorem dpLen {K : PySem.W.Frag} {H : Hp} : ∀ {vs : List V} {ds : List PyData}, DpAll K H vs ds → vs.length = ds.length
  | _, _, .nil => rfl
  | _, _, .cons _ s => by rw [List.length_cons, List.length_cons, dpLen s]
theorem dpGet {K : PySem.W.Frag} {H : Hp} : ∀ {vs : List V} {ds : List PyData} {i : Nat} {v : V}, DpAll K H vs ds → vs[i]? = some v → ∃ d, ds[i]? = some d ∧ Dp K H v d
  | _, _, 0, _, .cons h _, e => ⟨_, rfl, by
      have e2 := Option.some.inj e
      subst e2
      exact h⟩
  | _, _, i + 1, v, .cons _ s, e => dpGet (i := i) (v := v) s e
  | _, _, i, _, .nil, e => by simp at e
theorem d1Same {K : PySem.W.Frag} {H H' : Hp} (s : Same H H') {v : V} {d : PyData} (h : D1 K H v d) : D1 K H' v d := by
  cases h with
  | dp h => exact .dp (dpSame s h)
  | emp h => exact .emp (s _ _ h)
/-! ### the class of data -/
def tyN : PyData → String
  | .none => "NoneType"
  | .bool _ => "bool"
  | .int _ => "int"
  | .str _ => "str"
  | .list _ => "list"
  | .tuple _ => "tuple"
  | .dict _ => "dict"
def isIntD : PyData → Bool
  | .bool _ => true
  | .int _ => true
  | _ => false
def isBoolD : PyData → Bool
  | .bool _ => true
  | _ => false
def isStrD : PyData → Bool
  | .str _ => true
  | _ => false
def isTupD : PyData → Bool
  | .tuple _ => true
  | _ => false
def isSeqD : PyData → Bool
  | .list _ => true
  | .tuple _ => true
  | _ => false
theorem tyL {K : PySem.W.Frag} {H : Hp} {a : Addr} {xs : List V} (h : SqL K H a xs) : TyX K H (.ref a) (.type "list") := by
  rcases h with h | ⟨o, _, _, h, hc, _⟩
  · rcases h with h | ⟨o, h⟩
    · exact .base (.lst h)
    · exact .base (.frz h)
  · exact .kList h hc
theorem tyT {K : PySem.W.Frag} {H : Hp} {a : Addr} {xs : List V} (h : SqT K H a xs) : TyX K H (.ref a) (.type "tuple") := by
  rcases h with h | ⟨o, _, _, h, hc, _⟩
  · rcases h with h | ⟨o, h⟩
    · exact .base (.tup h)
    · exact .fTuple h
  · exact .kTuple h hc
theorem tyD {K : PySem.W.Frag} {H : Hp} {v : V} {d : PyData} (h : D1 K H v d) : TyX K H v (.type (tyN d)) := by
  cases h with
  | dp h =>
    cases h with
    | non => exact .base .non
    | bl b => exact .base (.bl b)
    | int i => exact .base (.int i)
    | str x => exact .base (.str x)
    | lst h _ => exact tyL h
    | tup h _ => exact tyT h
  | emp h => exact .base (.dK h)
theorem kInt {K : PySem.W.Frag} (d : PyData) : PySem.W.kitOne K (.type (tyN d)) (.type "int") = some (isIntD d) := by
  cases d
  all_goals exact kit_ty (by simp only [tyN, isIntD]; decide +kernel)
theorem kBool {K : PySem.W.Frag} (d : PyData) : PySem.W.kitOne K (.type (tyN d)) (.type "bool") = some (isBoolD d) := by
  cases d
  all_goals exact kit_ty (by simp only [tyN, isBoolD]; decide +kernel)
theorem kStr {K : PySem.W.Frag} (d : PyData) : PySem.W.kitOne K (.type (tyN d)) (.type "str") = some (isStrD d) := by
  cases d
  all_goals exact kit_ty (by simp only [tyN, isStrD]; decide +kernel)
theorem kTup {K : PySem.W.Frag} (d : PyData) : PySem.W.kitOne K (.type (tyN d)) (.type "tuple") = some (isTupD d) := by
  cases d
  all_goals exact kit_ty (by simp only [tyN, isTupD]; decide +kernel)
theorem kLst {K : PySem.W.Frag} (d : PyData) : PySem.W.kitOne K (.type (tyN d)) (.type "list") = some (isSeqD d && !isTupD d) := by
  cases d
  all_goals exact kit_ty (by simp only [tyN, isSeqD, isTupD]; decide +kernel)
theorem kSeq {K : PySem.W.Frag} (d : PyData) : PySem.W.kitAny K (.type (tyN d)) [.type "list", .type "tuple"] = some (isSeqD d) := by
  refine kitAny_cons (kLst d) (fun z => kitAny_cons (kTup d) (fun y => ?_) fun y => ?_) fun z => ?_
  · have e : isSeqD d = false := by
      cases d
      all_goals simp_all [isSeqD, isTupD]
    rw [e]
    exact kitAny_nil
  · cases d
    all_goals simp_all [isSeqD, isTupD]
  · cases d
    all_goals simp_all [isSeqD, isTupD]
theorem clsSeq : Paired ClsV [.ty "list", .ty "tuple"] [.type "list", .type "tuple"] := .cons (.ty _) (.cons (.ty _) .nil)
/-! ### how long it is when shown -/
def Big (n : Int) : Prop := -(10 ^ 40) ≤ n ∧ n ≤ 10 ^ 40
theorem big_log {n : Int} (h : Big n) : n.natAbs.log2 < 1920 := by
  have h0 : n.natAbs < 2 ^ 1920 := by
    have h1 : n.natAbs ≤ 10 ^ 40 := by
      obtain ⟨h1, h2⟩ := h
      omega
    exact Nat.lt_of_le_of_lt h1 (by decide +kernel)
  by_cases z : n.natAbs = 0
  · rw [z]
    decide +kernel
  · exact (Nat.log2_lt z).mpr h0
/-- it may be shown, in so many signs, so deep -/
structure Okd (d : PyData) (m e : Nat) : Prop where
  sh : d.showable = true
  ln : d.shown.length ≤ m
  dp : d.depth ≤ e
theorem Okd.up {d : PyData} {m e m' e' : Nat} (h : Okd d m e) (h1 : m ≤ m') (h2 : e ≤ e') : Okd d m' e' := ⟨h.sh, Nat.le_trans h.ln h1, Nat.le_trans h.dp h2⟩
theorem okNone : Okd .none 5 0 := ⟨by simp only [PyData.showable], by simp only [PyData.shown]; decide +kernel, by simp only [PyData.depth]; decide⟩
theorem okBool (b : Bool) : Okd (.bool b) 5 0 := by
  refine ⟨by simp only [PyData.showable], ?_, by simp only [PyData.depth]; decide⟩
  cases b
  · simp only [PyData.shown]
    decide +kernel
  · simp only [PyData.shown]
    decide +kernel
theorem okInt {n : Int} (h : Big n) : Okd (.int n) 50 0 := by
  refine ⟨?_, ?_, by simp only [PyData.depth]; decide⟩
  · simp only [PyData.showable, decide_eq_true_eq]
    exact big_log h
  · simp only [PyData.shown]
    rw [PySem.ofString_length]
    have h1 : n.natAbs < 10 ^ 41 := by
      have h1 : n.natAbs ≤ 10 ^ 40 := by
        obtain ⟨h1, h2⟩ := h
        omega
      exact Nat.lt_of_le_of_lt h1 (by decide +kernel)
    exact Nat.le_trans (int_text_length_le10 (k := 41) (by decide) h1) (by decide)
theorem okStr {x : Str} {m : Nat} (h : (reprText x).length ≤ m) : Okd (.str x) m 0 :=
  ⟨by simp only [PyData.showable], by simp only [PyData.shown]; exact h, by simp only [PyData.depth]; decide⟩
theorem okEmp : Okd (.dict []) 5 1 := by
  refine ⟨by simp only [PyData.showable, PyData.showableKv], ?_, by simp only [PyData.depth, PyData.depthKv]; decide⟩
  simp only [PyData.shown, PyData.shownKv]
  decide +kernel
theorem sum_le {m : Nat} : ∀ ts : List Str, (∀ t ∈ ts, t.length ≤ m) → (ts.map (·.length)).sum ≤ m * ts.length
  | [], _ => by simp
  | t :: r, h => by
    have h1 := h t List.mem_cons_self
    have h2 := sum_le r fun x hx => h x (List.mem_cons_of_mem _ hx)
    rw [List.map_cons, List.sum_cons, List.length_cons, Nat.mul_succ]
    show t.length + _ ≤ _
    omega
theorem oks {m e : Nat} : ∀ {ds : List PyData}, (∀ d ∈ ds, Okd d m e) → PyData.showableAll ds = true ∧ (∀ t ∈ PyData.shownAll ds, t.length ≤ m) ∧ PyData.depthAll ds ≤ e ∧ (PyData.shownAll ds).length = ds.length
  | [], _ => ⟨by simp only [PyData.showableAll], by simp [PyData.shownAll], by simp only [PyData.depthAll]; exact Nat.zero_le _, by simp only [PyData.shownAll]; rfl⟩
  | d :: r, h => by
    have a := h d List.mem_cons_self
    obtain ⟨b1, b2, b3, b4⟩ := oks fun x hx => h x (List.mem_cons_of_mem _ hx)
    refine ⟨by simp only [PyData.showableAll, a.sh, b1, Bool.and_self], ?_, ?_, by simp only [PyData.shownAll, List.length_cons, b4]⟩
    · intro t ht
      simp only [PyData.shownAll, List.mem_cons] at ht
      rcases ht with rfl | ht
      · exact a.ln
      · exact b2 t ht
    · have := a.dp
      simp only [PyData.depthAll]
      omega
theorem okList {ds : List PyData} {m e n : Nat} (h : ∀ d ∈ ds, Okd d m e) (l : ds.length ≤ n) : Okd (.list ds) (m * n + 2 * n + 3) (e + 1) := by
  obtain ⟨b1, b2, b3, b4⟩ := oks h
  refine ⟨by simp only [PyData.showable, b1], ?_, by simp only [PyData.depth]; omega⟩
  simp only [PyData.shown]
  have h1 := listText_len_le (PyData.shownAll ds)
  have h2 := sum_le _ b2
  rw [b4] at h1 h2
  have h3 : m * ds.length ≤ m * n := Nat.mul_le_mul_left m l
  omega
theorem okTuple {ds : List PyData} {m e n : Nat} (h : ∀ d ∈ ds, Okd d m e) (l : ds.length ≤ n) : Okd (.tuple ds) (m * n + 2 * n + 3) (e + 1) := by
  obtain ⟨b1, b2, b3, b4⟩ := oks h
  refine ⟨by simp only [PyData.showable, b1], ?_, by simp only [PyData.depth]; omega⟩
  simp only [PyData.shown]
  have h1 := tupleText_len_le (PyData.shownAll ds)
  have h2 := sum_le _ b2
  rw [b4] at h1 h2
  have h3 : m * ds.length ≤ m * n := Nat.mul_le_mul_left m l
  omega
theorem line_le {n : Nat} (h : n ≤ 1000000) : n ≤ sizeLine := Nat.le_trans h (by decide)
theorem bLn (B : Bool) : (PyData.bool B).shown.length ≤ sizeLine := Nat.le_trans (okBool B).ln (by decide)
theorem bDp (B : Bool) : (PyData.bool B).depth ≤ 60 := Nat.le_trans (okBool B).dp (by decide)
theorem ifSame {x : V} {A B : Prop} (h : B) : if (!decide (x = x)) = true then A else B := by
  rw [decide_eq_true rfl]
  exact h
/-! ### heaps and picks -/
theorem same_new {H : Hp} {p : Addr} {o : HO} (h : H p = none) : Same H (upd H p o) := fun b x e => by
  rw [upd_ne (ne_of_none e h)]
  exact e
theorem kep {H : Hp} {p q : Addr} {o u : HO} (h : H p = some o) (n : H q = none) : (upd H q u) p = some o := by
  rw [upd_ne (ne_of_none h n)]
  exact h
theorem upd_none {H : Hp} {p q : Addr} {o : HO} (h : upd H p o q = none) : H q = none := by
  unfold upd at h
  split at h
  · cases h
  · exact h
theorem pickL (xs : List V) {k : Int} (h0 : 0 ≤ k) (h1 : k < xs.length) : ∃ v, v ∈ xs ∧ atI xs k = some v := by
  obtain ⟨j, rfl⟩ : ∃ j : Nat, k = j := ⟨k.toNat, by omega⟩
  have hj : j < xs.length := by omega
  exact ⟨xs[j], List.getElem_mem hj, atI_nat (List.getElem?_eq_getElem hj)⟩
theorem pickK (xs : List V) {k : Int} (h0 : 0 ≤ k) (h1 : k < xs.length) : ∃ v, xs[k.toNat]? = some v ∧ atI xs k = some v := by
  obtain ⟨j, rfl⟩ : ∃ j : Nat, k = j := ⟨k.toNat, by omega⟩
  have hj : j < xs.length := by omega
  exact ⟨xs[j], List.getElem?_eq_getElem hj, atI_nat (List.getElem?_eq_getElem hj)⟩
theorem boxAway {H : Hp} {b D : Addr} {o : HO} (h : BoxAt H b) (n : D ≠ b) : BoxAt (upd H D o) b := by
  obtain ⟨x, y, z, h1, h2, h3, h4⟩ := h
  refine ⟨x, y, z, h1, h2, h3, ?_⟩
  rw [upd_ne n.symm]
  exact h4
theorem boxSame {b : Addr} {H H' : Hp} (h : BoxAt H b) (s : Same H H') : BoxAt H' b := by
  obtain ⟨x, y, z, h1, h2, h3, h4⟩ := h
  exact ⟨x, y, z, h1, h2, h3, s _ _ h4⟩
theorem same_kp {b : Addr} {H H' : Hp} (s : Same H H') : Kp b H H' := fun c o _ z => s c o z
theorem same_keep {H H' H'' : Hp} {b : Addr} (s : Same H H') (n : H' b = none) (k : ∀ c o, c ≠ b → H' c = some o → H'' c = some o) : Same H H'' := fun c o z =>
  k c o (ne_of_none (s c o z) n) (s c o z)
/-- new in H, where the box is b -/
def Nw (H : Hp) (b : Addr) : Addr → Prop := fun c => c = b ∨ ∃ o, H c = some o
theorem nw_of {H H' : Hp} {b p : Addr} (k : Kp b H H') (n : H' p = none) (hb : p ≠ b) : ¬ Nw H b p := by
  rintro (h | ⟨o, h⟩)
  · exact hb h
  · rw [k p o hb h] at n
    cases n
theorem Kp.kq {b : Addr} {H H' : Hp} {N : Addr → Prop} (k : Kp b H H') (n : N b) : Kq N H H' := fun c o hc z => k c o (fun e => hc (e ▸ n)) z
theorem defAt {K : PySem.W.Frag} {mg : Str → Option Value} {x : Str} {st : Stmt} {ps : List Str} {f : Addr} {oc : Value} {od an : Option Addr} {osl : Array (Option Value)} {kV doc pm cdv ct : Value}
    (m : mg x = some (.ref f))
    (l : K.lookup f = some ⟨oc, od, .func (PySem.W.fnOf x x (defArgs st) (defBody st) (defScope st) .none kV doc pm an cdv ct), osl⟩)
    (c : PySem.W.codeIn K cdv x = true) (k : PySem.W.keepIn K (.ref f) = true)
    (b : ∀ (kV doc pm : Value) (an : Option Addr) (cdv ct : Value) (us : List Value), us.length = ps.length →
      bindArgs (PySem.W.fnOf x x (defArgs st) (defBody st) (defScope st) .none kV doc pm an cdv ct) ⟨us, []⟩ = pure (ps.zip us)) :
    DefAt K mg x st ps := by
  have F := fun_mk (st := st) l c k
  exact ⟨f, _, F, m, F.binds b⟩
end Gd
/-! An own error whose __init__ says super().__init__(a text), then keeps the one thing it is made of. -/
namespace Ge
open PySem PySem.W PySem.Calls PyProof.Rows PySem.HandSPX
def iA (p1 p2 : Pos) : Arguments := { posonlyargs := [], args := [{ arg := "self", annotation := none, pos := p1 }, { arg := "found", annotation := none, pos := p2 }], vararg := none, kwonlyargs := [], kw_defaults := [], kwarg := none, defaults := [] }
def iB (msg : Str) (kk : Nat) (p1 p2 p3 p4 p5 p6 q1 q2 q3 q4 : Pos) : List Stmt :=
  [.Expr (.Call (.Attribute (.Call (.Name "super" p1) [] [] p2) "__init__" p3) [.Constant (.str msg) kk p4] [] p5) p6,
   .Assign [.Attribute (.Name "self" q1) "found" q2] (.Name "found" q3) q4]
def iS : Scope := { kind := .function, names := [(PySem.Str.ofString "self", .local), (PySem.Str.ofString "found", .local), (PySem.Str.ofString "__class__", .free), (PySem.Str.ofString "super", .globalImplicit)], isGenerator := false, isCoroutine := false, more := [] }
/-- what the written part says of the class at C and of its __init__ at fI -/
structure ErrTxt (P : Program) (K : Frag) (C fI : Addr) (qn msg : Str) : Prop where
  cls : ∃ nm q N bs bm sn sub ab col dd k0 k1 k2 k3 k5, K.lookup C = some (excClassObj nm q C N bs bm true sn sub ab col dd k0 k1 k2 k3 k5 "ValueError.__new__") ∧ refsVE bm = true
  sa : findIn K (.ref C) "__setattr__" = some (some (.builtin "object.__setattr__"))
  ga : findIn K (.ref C) "__getattribute__" = some (some (.builtin "BaseException.__getattribute__"))
  gg : findIn K (.ref C) "__getattr__" = some none
  noN : findIn K (.ref C) "found" = some none
  iC : findIn K (.ref C) "__init__" = some (some (.ref fI))
  tC : typeIn K (.ref fI) = some (.type "function")
  kC : keepIn K (.ref C) = true
  exC : subIn K (.ref C) (.type "BaseException") = some true
  veC : subIn K (.ref C) (.type "ValueError") = some true
  tyC : typeIn K (.ref C) = some (.type "type")
  hdC : hasDictIn K C = true
  sub : mroIn K C (.ref C) = some true
  sup : ks_superIn K C C "__init__" = some (some (.builtin "ValueError.__init__"))
  op : nsIn K cStatics "thirdparty.any" = some none
  zs : nsIn K mainGlobals "super" = some none
  htop : (P.main.scope.names.lookup ("super" : Str)).isSome = false
  fn : ∃ (oc : Value) (od : Option Addr) (doc pm : Value) (an : Option Addr) (cda cc : Addr) (ct : Value) (osl : Array (Option Value)) (kk : Nat) (p1 p2 p3 p4 p5 p6 q1 q2 q3 q4 r1 r2 : Pos) (ccl cl : Value) (cdd cld : Option Addr) (vs : Array Value) (ccs csl : Array (Option Value)) (file : Str) (tf : Tok),
    K.lookup fI = some ⟨oc, od, .func (ksFn "__init__" qn (iA r1 r2) (iB msg kk p1 p2 p3 p4 p5 p6 q1 q2 q3 q4) iS .none .none doc pm an (.ref cda) ct cc), osl⟩ ∧ codeIn K (.ref cda) qn = true ∧
    K.lookup cda = some ⟨ccl, cdd, .fields vs, ccs⟩ ∧ vs[2]? = some (.str file tf) ∧ ((P.main.file : Str) == file) = true ∧
    K.lookup cc = some ⟨cl, cld, .cell (some (.ref C)), csl⟩ ∧ (p3.endLine == p5.line) = true
/-- what __init__ leaves of a fresh exception at x -/
structure InitEnd (h h' : Heap) (x C dx t1 : Addr) (v : Value) : Prop where
  keep : ∀ b o, b ≠ x → h.get? b = some o → h'.get? b = some o
  obj : h'.get? x = some { cls := .ref C, dict := some dx, data := .fields #[.ref t1, .none, .none, .none, .bool false, .none] }
  dbig : h.objs.size ≤ dx
  dne : dx ≠ x
  ns : h'.Ns1 dx (fun y => if y = "found" then some v else none)
theorem iS_nocell : ∀ y ∈ iS.names, y.2 ≠ .cell := by decide +kernel
theorem iS_loc (x v : Value) : ∀ y ∈ ([(PySem.Str.ofString "self", x), (PySem.Str.ofString "found", v)] : List (Str × Value)), iS.names.lookup y.1 = some .local := by
  intro y hy
  simp only [List.mem_cons, List.not_mem_nil, or_false] at hy
  rcases hy with rfl | rfl
  · exact (by decide +kernel : iS.names.lookup (PySem.Str.ofString "self") = some .local)
  · exact (by decide +kernel : iS.names.lookup (PySem.Str.ofString "found") = some .local)
/-- o.name(..) in a body that is known to run, the call's line told -/
theorem at_method {M : Model} {A : Around} {c : Code} {E : Value → Shared → Prop} {s : Shared} {env : Env} {o : Expr} {name : Str} {apos pos : Pos} {args : List Expr} {Q : Value → Shared → Prop}
    (hl : (apos.endLine == pos.line) = true) (hf : methodCallForm (args.length + ([] : List Keyword).length) (backTo pos (starEach args env)) (backToKw pos (keywordEach [] env)) = true)
    (h : _root_.PySem.wpAt M A c (attributeBase o name env (eval o env)) (fun ov s₁ => wpAny M A (getMethod ov name (do return (← importBound o env).getD true))
      (fun fx s₂ => wpAny M A (callWith pos fx.1 fx.2 (backTo pos (starEach args env)) (backToKw pos (keywordEach [] env))) Q E s₂) E s₁) E s) :
    _root_.PySem.wpAt M A c (eval (.Call (.Attribute o name apos) args [] pos) env) Q E s := by
  rw [arm_eval_Call]
  apply _root_.PySem.wpAt_bind
  apply _root_.PySem.wpAt_mono h
  · intro ov s₁ h₁
    apply _root_.PySem.wpAt_of_wpAny
    apply wpAny_bind
    apply wpAny_standAt
    have hp : methodCallPos true o env apos pos = pure pos := by
      unfold methodCallPos
      simp [hl]
    unfold methodCall
    rw [hf]
    apply wpAny_bind
    apply wpAny_holding
    apply wpAny_mono h₁
    · intro fx s₂ h₂
      exact wpAny_bind (wpAny_of_eq hp h₂)
    · intro _ _ z
      exact z
  · intro _ _ z
    exact z
section
variable {prog : Program} {w : World} {A : Around} {E : Value → Shared → Prop} {R : Result → Shared → Prop} {s : Shared} {K : Frag} {mg mb : Str → Option Value} {C fI : Addr} {qn msg : Str}
theorem sup_call {h : Heap} {g : Array GenState} {d : Drawn} {t : Nat} {os : OsState} {u e t0 : Addr} {one : Value} {Q : Value → Shared → Prop}
    {nm q : Str} {N : Addr} {bs bm sub : List Value} {sn : List Str} {ab : Bool} {col : Option Bool} {dd : Option Addr} {k0 k1 k2 k3 k5 : Option Value}
    (hC : h.get? C = some (excClassObj nm q C N bs bm true sn sub ab col dd k0 k1 k2 k3 k5 "ValueError.__new__")) (he : h.get? e = some (excO C t0)) (hu : h.get? u = some (kxs_mw "ValueError.__init__" e))
    (hq : ∀ h' t1, (∀ b o, b ≠ e → h.get? b = some o → h'.get? b = some o) → h'.get? e = some (excO C t1) → Q .none ⟨h', g, d, t, os⟩) :
    wpAny (model prog w) A (call (.ref u) [one]) Q E ⟨h, g, d, t, os⟩ := by
  refine wpAny_call (codeAny_of_tree (show wpAny _ (Around.in1 _) (callAny (.ref u) ⟨[one], []⟩) _ _ _ from ?_))
  have e1 : (Value.type "method-wrapper" == Value.type "method" || Value.type "method-wrapper" == Value.type "builtin_function_or_method" || Value.type "method-wrapper" == Value.type "method-wrapper") = true := by decide
  simp only [callAny]
  refine wpAny_bind (m := load u) (wpAny_load hu ?_)
  simp only [kxs_mw, e1, if_true]
  refine (KFB.if_so (by decide) (wpAny_bind (check_bound_init F.excBase_ValueError.toExcCallFacts hC he rfl ?_)))
  refine (wpAny_bind (wpAny_pure (wpAny_pure (And.intro (plainId_quiet F.excBase_ValueError.init.plain _) (codeAny_builtin F.excBase_ValueError.initEntry ?_)))))
  have lz : [one].length ≤ sizeLine := by
    rw [sizeLine_eq]
    exact (by decide : 1 ≤ 16777216)
  exact exc_init_tree (cls := .ref C) (t0 := t0) (dv := none) (c2 := .none) (c3 := .none) (b4 := .bool false) he lz (fun h₄ k₄ hx₄ _ => hq h₄ _ k₄ hx₄)
theorem err_init (T : ErrTxt prog K C fI qn msg) {x t0 : Addr} {v : Value} (X : K.In s.heap) (lim : s.heap.NoLimit) (gl : s.heap.Ns mainGlobals mg) (bl : s.heap.Ns builtinsNs mb)
    (bb : ∀ x : Str, x ≠ "__name__" → mb x = bootBuiltins x) (hx : s.heap.get? x = some (excO C t0)) (hnx : K.lookup x = none) (room : A.depth < recursionLimit)
    (hq : ∀ h' tk dx t1, InitEnd s.heap h' x C dx t1 v → R (.ok (.ret .none)) { s with heap := h', toks := tk }) :
    codeAny (model prog w) A (.call (.ref fI) ⟨[.ref x, v], []⟩) R s := by
  obtain ⟨oc, od, doc, pm, an, cda, cc, ct, osl, kk, p1, p2, p3, p4, p5, p6, q1, q2, q3, q4, r1, r2, ccl, cl, cdd, cld, vs, ccs, csl, file, tf, ho, hcd, hcode, hvs, hfile, hcell, hline⟩ := T.fn
  obtain ⟨nm, q, N, bs, bm, sn, sub, ab, col, dd, k0, k1, k2, k3, k5, hC, hbm⟩ := T.cls
  have hzs := mg_none_of X gl T.zs
  obtain ⟨hp, g, dr, tk, os⟩ := s
  refine ks_codeAny_call_defAt (binds := [("self", .ref x), ("found", v)]) room (X _ _ ho) rfl lim (codeRec_of X hcd) rfl (BindsTo.of_eq (by first | rfl | with_unfolding_all rfl)) iS_nocell (iS_loc _ _) (fun h₁ hns k₁ => ?_) rfl rfl rfl
  have X₁ : K.In h₁ := X.keeps k₁
  have hx₁ := k₁ _ _ hx
  refine ks_wpAt_execs_cons (ks_wpAt_Expr_any (at_method hline (by first | rfl | with_unfolding_all rfl) ?_))
  refine ks_wpAt_super_base rfl rfl (by decide) rfl (X₁ _ _ ho) rfl rfl rfl (X₁ _ _ hcode) rfl hvs hfile T.htop ?_
  refine ks_loadName_global rfl rfl (loadGlobal_builtin (gl.keeps k₁) hzs (bl.keeps k₁) ((bb _ (by decide +kernel)).trans (by decide +kernel : bootBuiltins "super" = some (.type "super"))) ⟨rfl, ?_⟩)
  refine wpAny_loadName_free rfl rfl rfl ⟨_, X₁ _ _ hcell, rfl⟩ ?_
  refine wpAny_loadName_local rfl rfl hns (v := .ref x) (by first | rfl | with_unfolding_all rfl) ?_
  refine ks_wpAny_isType_cls (X₁ _ _ hC) rfl ⟨rfl, ?_⟩
  refine ks_wpAny_call_super (X₁ _ _ hC) rfl hx₁ rfl (fun c e => nomatch e) (looks_mroIn X₁ T.sub) (fun h₂ e₂ k₂ => ?_)
  have X₂ : K.In h₂ := X₁.keeps k₂
  have hx₂ := k₂ _ _ hx₁
  have I₂ : InstAt h₂ x (excO C t0) C none := ⟨hx₂, rfl, rfl, trivial⟩
  have hcl : clsIn K C = some { name := nm, bases := bs, mro := .ref C :: bm, ns := N, qualname := q, hasDict := true, slotNames := sn, subclasses := sub, abstract := ab, collection := col, hasDel := false } := by
    unfold clsIn
    rw [hC]
    all_goals rfl
  have hm := T.sup
  unfold ks_superIn at hm
  rw [hcl] at hm
  have hI : Looks (model prog w) h₂ (isInstance (.ref x) (.type "ValueError")) true := I₂.type.andThen (looks_subIn X₂ T.veC)
  have hxC : x ≠ C := fun z => by
    rw [z, hC] at hnx
    cases hnx
  refine kxs_getMethod kxs_ValueError e₂ (looks_opaque X₂ T.op) (l₀ := .ref C :: bm) ?_ rfl X₂ hm hI hxC (by decide +kernel) ?_
  · exact fun A Q E s k q => wpAny_bind ((looks_clsIn X₂ hcl) A _ E s k (wpAny_pure q))
  have hu : (h₂.push (kxs_mw "ValueError.__init__" x)).get? h₂.objs.size = some (kxs_mw "ValueError.__init__" x) := Heap.get?_push_at rfl rfl
  have k₃ : ∀ b o, h₂.get? b = some o → (h₂.push (kxs_mw "ValueError.__init__" x)).get? b = some o := fun b o e => Heap.get?_push_of_some _ e
  have X₃ : K.In (h₂.push (kxs_mw "ValueError.__init__" x)) := X₂.keeps k₃
  have hx₃ := k₃ _ _ hx₂
  refine kxs_callWith (i := "ValueError.__init__") (x := x) (by rfl) (evalArgs_plain ?_)
  refine Calls.spliced_cons (Calls.Constant_str (k := kk) (pos := p4) ?_)
  refine Calls.spliced_nil ⟨hu, ?_⟩
  refine sup_call (X₃ _ _ hC) hx₃ hu (fun h₄ t1 k₄ hx₄ => ?_)
  -- self.found = found
  have X₄ : K.In h₄ := fun a o e => k₄ a o (fun z => by rw [z, hnx] at e; cases e) (X₃ a o e)
  have hLx : hp.objs.size ≠ x := Nat.ne_of_gt (Heap.lt_size hx)
  have hn₄ := hns
  obtain ⟨oL, es, ep, eL, rL⟩ := hn₄
  have hn₄ : h₄.Ns hp.objs.size _ := ⟨oL, es, ep, k₄ _ _ hLx (k₃ _ _ (k₂ _ _ eL)), rL⟩
  have big : hp.objs.size < h₄.objs.size := hn₄.lt
  show _root_.PySem.wpAt _ _ _ (execs _ _) _ _ _
  refine _root_.PySem.wpAt_of_wpAny (wpAny_execs_cons (plainObj_wpAny_Assign_Attribute ?_))
  refine wpAny_Name (wpAny_loadName_local rfl rfl hn₄ (v := v) (by first | rfl | with_unfolding_all rfl) ?_) (by decide)
  refine wpAny_Name (wpAny_loadName_local rfl rfl hn₄ (v := .ref x) (by first | rfl | with_unfolding_all rfl) ?_) (by decide)
  refine set_plain X₄ (ox := excO C t1) (od := none) ⟨hx₄, rfl, rfl, trivial⟩ T.sa ?_
  refine HandSPX.exc_osa X₄ hx₄ hcl (show refsVE (.ref C :: bm) = true from hbm) rfl T.noN (fun h₅ tk₅ dx k₅ dn dne hx₅ hn₅ => ?_)
  show wpAny _ _ (execs _ _) _ _ _
  exact wpAny_execs_nil (hq h₅ tk₅ dx t1 ⟨fun b o hb e => k₅ b o hb (k₄ b o hb (k₃ b o (k₂ b o (k₁ b o e)))), hx₅, Nat.le_trans (Nat.le_of_lt big) dn, dne, hn₅⟩)
/-- an error that was made: its own dict d holds the thing -/
structure OwnMade (h h' : Heap) (e C d : Addr) (v : Value) : Prop where
  keep : ∀ b o, h.get? b = some o → h'.get? b = some o
  new : h.objs.size ≤ e
  obj : ∃ oe vs, h'.get? e = some oe ∧ oe.cls = .ref C ∧ oe.dict = some d ∧ oe.data = .fields vs ∧ vs[1]? = some .none
  dbig : h.objs.size ≤ d
  dne : d ≠ e
  ns : h'.Ns1 d (fun y => if y = "found" then some v else none)
theorem one_size (v : Value) : [v].length ≤ sizeLine := by
  rw [sizeLine_eq]
  exact (by decide : 1 ≤ 16777216)
theorem err_made (T : ErrTxt prog K C fI qn msg) {v : Value} (X : K.In s.heap) (lim : s.heap.NoLimit) (gl : s.heap.Ns mainGlobals mg) (bl : s.heap.Ns builtinsNs mb)
    (bb : ∀ x : Str, x ≠ "__name__" → mb x = bootBuiltins x) (room : A.depth + 1 < recursionLimit)
    (hq : ∀ h' tk e d, OwnMade s.heap h' e C d v → R (.ok (.ret (.ref e))) { s with heap := h', toks := tk }) :
    codeAny (model prog w) A (.call (.ref C) ⟨[v], []⟩) R s := by
  obtain ⟨nm, q, N, bs, bm, sn, sub, ab, col, dd, k0, k1, k2, k3, k5, hC, hbm⟩ := T.cls
  obtain ⟨hp, g, dr, tk, os⟩ := s
  have k : ∀ b o, hp.get? b = some o → ((hp.push (kdv_tup [v])).push (excO C hp.objs.size)).get? b = some o := fun b o e => Heap.get?_push_of_some _ (Heap.get?_push_of_some _ e)
  have hget : ((hp.push (kdv_tup [v])).push (excO C hp.objs.size)).get? (hp.objs.size + 1) = some (excO C hp.objs.size) := by heap_get
  have hnx : K.lookup (hp.objs.size + 1) = none := by
    cases e : K.lookup (hp.objs.size + 1) with
    | none => rfl
    | some o =>
      have z : hp.get? (hp.objs.size + 1) = some o := X _ _ e
      exact absurd (Nat.lt_of_succ_lt (Heap.lt_size z)) (Nat.lt_irrefl _)
  refine HandSPX.call_own F.excBase_ValueError (fun X => refsVE_contains X bm hbm) (X _ _ hC) (looks_findIn X T.iC) (fun self => bind_fn X self T.tC) (one_size v) ?_
  refine err_init (s := ⟨(hp.push (kdv_tup [v])).push (excO C hp.objs.size), g, dr, tk, os⟩) T (X.keeps k) (lim.keeps k) (gl.keeps k) (bl.keeps k) bb hget hnx ?_ fun h' tk' dx t1 ⟨k', hx, dn, dne, hns⟩ => ?_
  · show A.depth + 1 < recursionLimit
    exact room
  · have old : ∀ b o, hp.get? b = some o → h'.get? b = some o := fun b o e => k' b o (Nat.ne_of_lt (Nat.lt_succ_of_lt (Heap.lt_size e))) (k b o e)
    have z : hp.objs.size + 1 + 1 ≤ dx := by
      first
        | (simpa only [Heap.size_push] using dn)
        | exact dn
        | (have q := dn; rw [Heap.size_push, Heap.size_push] at q; exact q)
    exact ⟨rfl, hq h' tk' (hp.objs.size + 1) dx ⟨old, Nat.le_succ _, ⟨_, _, hx, rfl, rfl, rfl, rfl⟩, Nat.le_trans (Nat.le_trans (Nat.le_succ _) (Nat.le_succ _)) z, dne, hns⟩⟩
end
end Ge
namespace Ge
open PySem PySem.Spec PyProof.Rows L2
theorem relO_f {v : V} {v' : Value} (r : RelV v v') (f : Str) : RelO (List.lookup f [(("found" : Str), v)]) (if f = "found" then some v' else none) := by
  by_cases hw : f = "found"
  · subst hw
    rw [if_pos rfl]
    have q : List.lookup ("found" : Str) [(("found" : Str), v)] = some v := by simp [List.lookup]
    rw [q]
    exact r
  · rw [if_neg hw]
    have qw : (f == ("found" : Str)) = false := by simpa using hw
    have q2 : List.lookup f [(("found" : Str), v)] = none := by simp [List.lookup, qw]
    rw [q2]
    trivial
section
variable {X : Cx} {C fI : Addr} {qn msg cn : Str}
/-- E(e) -/
def tMkE (C : Addr) (ta : TA) : L2.St → Hp → XK → Prop := fun σ H Q => ta σ H fun vs H1 => ∃ v, vs = [v] ∧ ∀ d, H1 d = none → Q (.ref C) (some d) (upd H1 d (.xd [(("found" : Str), v)]))
theorem pmk_err {a : Expr} {ta : TA} {p pos : Pos} {k : Nat} (T : ErrTxt X.prog X.K C fI qn msg) (gC : X.mg cn = some (.ref C)) (hr : Room k X.A) (ha : PA X [a] ta) (hg : Gl X cn)
    (hdb : (cn == ("__debug__" : Str)) = false := by decide)
    (he : starEach (a :: []) X.env = (false, eval a X.env) :: starEach [] X.env := by rfl) (hpl : (backTo pos (starEach [] X.env)).any (·.1) = false := by rfl) :
    PMk X (.Call (.Name cn p) [a] [] pos) (tMkE C ta) := by
  intro pins s σ H Q I h
  apply wpAny_Call_Name_kw
  apply ld_glob I hg gC (hd := hdb)
  refine PySem.W.callWith_K (h₀ := X.base) I.ok.mod.kin T.kC (thn (ha.run pos pins s σ H _ I h) ?_) he hpl
  rintro us s1 ⟨vs, H1, I1, r1, v, ev, q1⟩
  subst ev
  refine ⟨I1.kIn, ?_⟩
  cases r1 with
  | cons rv rn =>
    rename_i v' us'
    cases rn
    show wpAny _ _ (call (.ref C) [v']) _ _ _
    have hlim := I1.nolimit
    have hgl := I1.mod.glob.keeps I1.bk
    obtain ⟨mb, hbl0, hbb⟩ := I1.mod.blt
    have hbl := hbl0.keeps I1.bk
    obtain ⟨hp, g, dr, tk, os⟩ := s1
    refine wpAny_call (err_made T I1.kIn hlim hgl hbl hbb (by have := hr.dp; omega) fun h' tk' e d M => ?_)
    show MkP X pins σ Q (.ref e) ⟨h', g, dr, tk', os⟩
    obtain ⟨oe, fv, hoe, hc, hd, hdat, h1⟩ := M.obj
    have hns := M.ns
    obtain ⟨G', g1, g2⟩ := restrict h' fun b => decide (b ≠ e)
    have gk : ∀ b, b ≠ e → G'.get? b = h'.get? b := fun b hb => g1 b (decide_eq_true hb)
    have ge : G'.get? e = none := g2 e (by simp)
    have old : ∀ b o, hp.get? b = some o → G'.get? b = some o := fun b o q => (gk b (Nat.ne_of_lt (Nat.lt_of_lt_of_le (Heap.lt_size q) M.new))).trans (M.keep b o q)
    have ob : ObjOk X.prog X.w (upd H1 d (.xd [(("found" : Str), v)])) G' d (.xd [(("found" : Str), v)]) :=
      ⟨_, hns.at (fun o q => (gk d M.dne).trans q), fun f => relO_f rv f⟩
    have J : Inv X pins σ (upd H1 d (.xd [(("found" : Str), v)])) ⟨G', g, dr, tk', os⟩ := I1.laid (t' := tk') old M.dbig ob
    refine ⟨e, oe, fv, ⟨G', g, dr, tk', os⟩, _, .ref C, some d, rfl, J, fun b o q => ?_, ge, hoe, ⟨hc, hd⟩, hdat, h1, ?_, rfl, I1.bare, raises_own T.exC T.tyC, q1 d (I1.hok.fresh M.dbig)⟩
    · by_cases hb : b = e
      · have q' : G'.get? b = some o := q
        rw [hb, ge] at q'
        cases q'
      · exact (gk b hb).symm.trans q
    · rw [upd_ne (Ne.symm M.dne)]
      exact I1.hok.fresh M.new
/-- raise E(e) -/
def tRaiseE (C : Addr) (W : WX) (ta : TA) : TS := fun _ σ H => tMkE C ta σ H fun cls d H' => W cls d σ H'
theorem ps_raiseE {a : Expr} {ta : TA} {W : WX} {p pos pos2 : Pos} {k : Nat} (hc : X.calm = true) (T : ErrTxt X.prog X.K C fI qn msg) (gC : X.mg cn = some (.ref C)) (hr : Room k X.A) (tk : Takes X W) (ha : PA X [a] ta) (hg : Gl X cn)
    (hdb : (cn == ("__debug__" : Str)) = false := by decide)
    (he : starEach (a :: []) X.env = (false, eval a X.env) :: starEach [] X.env := by rfl) (hpl : (backTo pos (starEach [] X.env)).any (·.1) = false := by rfl) :
    PS X (.Raise (some (.Call (.Name cn p) [a] [] pos)) none pos2) (tRaiseE C W ta) := ps_raise hc tk (pmk_err T gC hr ha hg hdb he hpl)
/-- e.found, e the exception that the suite holds (at a; its class cls, its dict d) -/
def tFound (C : Addr) (a : Addr) (cls : Value) (d : Option Addr) (te : TE) : TE := fun σ H Q => te σ H fun x H1 => x = .ref a ∧ cls = .ref C ∧ ∃ (dd : Addr) (v : V), d = some dd ∧ H1 dd = some (.xd [(("found" : Str), v)]) ∧ Q v H1
theorem pe_found {a : Addr} {oe : Obj} {cls : Value} {d : Option Addr} {pn : List (Addr × Obj)} {e : Expr} {te : TE} {pos : Pos} (T : ErrTxt X.prog X.K C fI qn msg) (hz : Zc cls d oe) (hf : ∃ vs, oe.data = .fields vs) (he : PE (X.suite a ((a, oe) :: pn)) e te)
    (hb : attributeBase e "found" X.env (eval e X.env) = eval e X.env := by rfl) :
    PE (X.suite a ((a, oe) :: pn)) (.Attribute e "found" pos) (tFound C a cls d te) := by
  constructor
  intro pins s σ H Q I h
  refine attr_of hb (thn (he.run pins s σ H _ I h) ?_)
  rintro u s1 ⟨x, H1, I1, rx, ex, ec, dd, v, ed, ea, q⟩
  subst ex
  obtain rfl : u = Value.ref a := rx
  subst ec
  subst ed
  have ha := (I1.pin (a, oe) (List.mem_append_left _ List.mem_cons_self)).1
  obtain ⟨vs, hd⟩ := hf
  have hx : ObjOk X.prog X.w H1 s1.heap dd (.xd [(("found" : Str), v)]) := I1.hok dd _ ea
  obtain ⟨mA, hns, hr⟩ := hx
  obtain ⟨od, ho, hl⟩ := lookIn_ns hns
  have l : List.lookup ("found" : Str) [(("found" : Str), v)] = some v := by simp [List.lookup]
  obtain ⟨u, hu, ru⟩ := RelO.some_of (v := v) (o := mA "found") (by rw [← l]; exact hr "found")
  have J : PySem.W.InstAt s1.heap a oe C (some od) := by
    refine ⟨ha, hz.1, ?_, by rw [hz.2]; exact ho⟩
    unfold PySem.W.notCls
    rw [hd]
    all_goals rfl
  exact HandSPX.exc_get I1.kIn J T.ga T.gg T.exC (PySem.W.findObj_own T.hdC T.noN rfl (by rw [hl, hu])) (handed_of ru) ⟨v, H1, I1.tok _, ru, q⟩
/-- what a class of errors must say so that isinstance asks it -/
structure IsTxt (K : PySem.W.Frag) (C : Addr) : Prop where
  ha : PySem.W.findIn K (.ref C) "__class__" = some (some (.builtin "object.__class__"))
  hn : PySem.W.specialIn K (.builtin "object.__class__") "__get__" = some (some (.builtin "getset_descriptor.__get__"))
  ht : PySem.W.takesIn K (.builtin "object.__class__") = some true
  hm : PySem.W.mroIn K C (.type "object") = some true
/-- isinstance(e, c), e the exception that the suite holds, with its own dict -/
def rIsF (K : PySem.W.Frag) (C a : Addr) (cls : Value) (d : Option Addr) : List V → Hp → VK → Prop := fun xs H Q => ∃ (c : V) (cv : Value) (b : Bool) (dd : Addr) (v : V), xs = [.ref a, c] ∧ cls = .ref C ∧ d = some dd ∧
  H dd = some (.xd [(("found" : Str), v)]) ∧ ClsV c cv ∧ PySem.W.kitOne K (.ref C) cv = some b ∧ Q (.bl b) H
theorem call_isF {a : Addr} {oe : Obj} {cls : Value} {d : Option Addr} {pn : List (Addr × Obj)} (T : ErrTxt X.prog X.K C fI qn msg) (S : IsTxt X.K C) (hz : Zc cls d oe) (hf : ∃ vs, oe.data = .fields vs) :
    CallR (X.suite a ((a, oe) :: pn)) (.builtin "isinstance") (rIsF X.K C a cls d) := by
  intro pins s σ H xs us Q I r h
  obtain ⟨c, cv, b, dd, v, rfl, rfl, rfl, ea, hcv, e, q⟩ := h
  obtain ⟨u1, u2, rfl, r1, r2⟩ := vals2 r
  cases (show u1 = Value.ref a from r1)
  have e2 := hcv.eq r2
  subst e2
  have ha := (I.pin (a, oe) (List.mem_append_left _ List.mem_cons_self)).1
  obtain ⟨vs, hd⟩ := hf
  have hx : ObjOk X.prog X.w H s.heap dd (.xd [(("found" : Str), v)]) := I.hok dd _ ea
  obtain ⟨mA, hns, _⟩ := hx
  obtain ⟨od, ho, _⟩ := lookIn_ns hns
  have J : PySem.W.InstAt s.heap a oe C (some od) := by
    refine ⟨ha, hz.1, ?_, by rw [hz.2]; exact ho⟩
    unfold PySem.W.notCls
    rw [hd]
    all_goals rfl
  have hcl : (PySem.W.clsIn X.K C).isSome = true := by
    obtain ⟨cd, hc, _⟩ := PySem.W.any_some T.hdC
    rw [hc]
    rfl
  exact PySem.W.kia_one (PySem.W.kitx_exc hcl T.ga T.gg T.exC S.ha S.hn S.ht S.hm) I.kIn J e (fun z => nomatch z) fun tk => ⟨.bl b, H, I.kept (t' := tk) fun _ _ z => z, rfl, q⟩
end
end Ge
/-! An own error whose __init__ says super().__init__(a text), then keeps the one thing it is made of. -/
namespace Gc
open PySem PySem.W PySem.Calls PyProof.Rows PySem.HandSPX
def iA (p1 p2 : Pos) : Arguments := { posonlyargs := [], args := [{ arg := "self", annotation := none, pos := p1 }, { arg := "count", annotation := none, pos := p2 }], vararg := none, kwonlyargs := [], kw_defaults := [], kwarg := none, defaults := [] }
def iB (msg : Str) (kk : Nat) (p1 p2 p3 p4 p5 p6 q1 q2 q3 q4 : Pos) : List Stmt :=
  [.Expr (.Call (.Attribute (.Call (.Name "super" p1) [] [] p2) "__init__" p3) [.Constant (.str msg) kk p4] [] p5) p6,
   .Assign [.Attribute (.Name "self" q1) "count" q2] (.Name "count" q3) q4]
def iS : Scope := { kind := .function, names := [(PySem.Str.ofString "self", .local), (PySem.Str.ofString "count", .local), (PySem.Str.ofString "__class__", .free), (PySem.Str.ofString "super", .globalImplicit)], isGenerator := false, isCoroutine := false, more := [] }
/-- what the written part says of the class at C and of its __init__ at fI -/
structure ErrTxt (P : Program) (K : Frag) (C fI : Addr) (qn msg : Str) : Prop where
  cls : ∃ nm q N bs bm sn sub ab col dd k0 k1 k2 k3 k5, K.lookup C = some (excClassObj nm q C N bs bm true sn sub ab col dd k0 k1 k2 k3 k5 "ValueError.__new__") ∧ refsVE bm = true
  sa : findIn K (.ref C) "__setattr__" = some (some (.builtin "object.__setattr__"))
  ga : findIn K (.ref C) "__getattribute__" = some (some (.builtin "BaseException.__getattribute__"))
  gg : findIn K (.ref C) "__getattr__" = some none
  noN : findIn K (.ref C) "count" = some none
  iC : findIn K (.ref C) "__init__" = some (some (.ref fI))
  tC : typeIn K (.ref fI) = some (.type "function")
  kC : keepIn K (.ref C) = true
  exC : subIn K (.ref C) (.type "BaseException") = some true
  veC : subIn K (.ref C) (.type "ValueError") = some true
  tyC : typeIn K (.ref C) = some (.type "type")
  hdC : hasDictIn K C = true
  sub : mroIn K C (.ref C) = some true
  sup : ks_superIn K C C "__init__" = some (some (.builtin "ValueError.__init__"))
  op : nsIn K cStatics "thirdparty.any" = some none
  zs : nsIn K mainGlobals "super" = some none
  htop : (P.main.scope.names.lookup ("super" : Str)).isSome = false
  fn : ∃ (oc : Value) (od : Option Addr) (doc pm : Value) (an : Option Addr) (cda cc : Addr) (ct : Value) (osl : Array (Option Value)) (kk : Nat) (p1 p2 p3 p4 p5 p6 q1 q2 q3 q4 r1 r2 : Pos) (ccl cl : Value) (cdd cld : Option Addr) (vs : Array Value) (ccs csl : Array (Option Value)) (file : Str) (tf : Tok),
    K.lookup fI = some ⟨oc, od, .func (ksFn "__init__" qn (iA r1 r2) (iB msg kk p1 p2 p3 p4 p5 p6 q1 q2 q3 q4) iS .none .none doc pm an (.ref cda) ct cc), osl⟩ ∧ codeIn K (.ref cda) qn = true ∧
    K.lookup cda = some ⟨ccl, cdd, .fields vs, ccs⟩ ∧ vs[2]? = some (.str file tf) ∧ ((P.main.file : Str) == file) = true ∧
    K.lookup cc = some ⟨cl, cld, .cell (some (.ref C)), csl⟩ ∧ (p3.endLine == p5.line) = true
/-- what __init__ leaves of a fresh exception at x -/
structure InitEnd (h h' : Heap) (x C dx t1 : Addr) (v : Value) : Prop where
  keep : ∀ b o, b ≠ x → h.get? b = some o → h'.get? b = some o
  obj : h'.get? x = some { cls := .ref C, dict := some dx, data := .fields #[.ref t1, .none, .none, .none, .bool false, .none] }
  dbig : h.objs.size ≤ dx
  dne : dx ≠ x
  ns : h'.Ns1 dx (fun y => if y = "count" then some v else none)
theorem iS_nocell : ∀ y ∈ iS.names, y.2 ≠ .cell := by decide +kernel
theorem iS_loc (x v : Value) : ∀ y ∈ ([(PySem.Str.ofString "self", x), (PySem.Str.ofString "count", v)] : List (Str × Value)), iS.names.lookup y.1 = some .local := by
  intro y hy
  simp only [List.mem_cons, List.not_mem_nil, or_false] at hy
  rcases hy with rfl | rfl
  · exact (by decide +kernel : iS.names.lookup (PySem.Str.ofString "self") = some .local)
  · exact (by decide +kernel : iS.names.lookup (PySem.Str.ofString "count") = some .local)
/-- o.name(..) in a body that is known to run, the call's line told -/
theorem at_method {M : Model} {A : Around} {c : Code} {E : Value → Shared → Prop} {s : Shared} {env : Env} {o : Expr} {name : Str} {apos pos : Pos} {args : List Expr} {Q : Value → Shared → Prop}
    (hl : (apos.endLine == pos.line) = true) (hf : methodCallForm (args.length + ([] : List Keyword).length) (backTo pos (starEach args env)) (backToKw pos (keywordEach [] env)) = true)
    (h : _root_.PySem.wpAt M A c (attributeBase o name env (eval o env)) (fun ov s₁ => wpAny M A (getMethod ov name (do return (← importBound o env).getD true))
      (fun fx s₂ => wpAny M A (callWith pos fx.1 fx.2 (backTo pos (starEach args env)) (backToKw pos (keywordEach [] env))) Q E s₂) E s₁) E s) :
    _root_.PySem.wpAt M A c (eval (.Call (.Attribute o name apos) args [] pos) env) Q E s := by
  rw [arm_eval_Call]
  apply _root_.PySem.wpAt_bind
  apply _root_.PySem.wpAt_mono h
  · intro ov s₁ h₁
    apply _root_.PySem.wpAt_of_wpAny
    apply wpAny_bind
    apply wpAny_standAt
    have hp : methodCallPos true o env apos pos = pure pos := by
      unfold methodCallPos
      simp [hl]
    unfold methodCall
    rw [hf]
    apply wpAny_bind
    apply wpAny_holding
    apply wpAny_mono h₁
    · intro fx s₂ h₂
      exact wpAny_bind (wpAny_of_eq hp h₂)
    · intro _ _ z
      exact z
  · intro _ _ z
    exact z
section
variable {prog : Program} {w : World} {A : Around} {E : Value → Shared → Prop} {R : Result → Shared → Prop} {s : Shared} {K : Frag} {mg mb : Str → Option Value} {C fI : Addr} {qn msg : Str}
theorem sup_call {h : Heap} {g : Array GenState} {d : Drawn} {t : Nat} {os : OsState} {u e t0 : Addr} {one : Value} {Q : Value → Shared → Prop}
    {nm q : Str} {N : Addr} {bs bm sub : List Value} {sn : List Str} {ab : Bool} {col : Option Bool} {dd : Option Addr} {k0 k1 k2 k3 k5 : Option Value}
    (hC : h.get? C = some (excClassObj nm q C N bs bm true sn sub ab col dd k0 k1 k2 k3 k5 "ValueError.__new__")) (he : h.get? e = some (excO C t0)) (hu : h.get? u = some (kxs_mw "ValueError.__init__" e))
    (hq : ∀ h' t1, (∀ b o, b ≠ e → h.get? b = some o → h'.get? b = some o) → h'.get? e = some (excO C t1) → Q .none ⟨h', g, d, t, os⟩) :
    wpAny (model prog w) A (call (.ref u) [one]) Q E ⟨h, g, d, t, os⟩ := by
  refine wpAny_call (codeAny_of_tree (show wpAny _ (Around.in1 _) (callAny (.ref u) ⟨[one], []⟩) _ _ _ from ?_))
  have e1 : (Value.type "method-wrapper" == Value.type "method" || Value.type "method-wrapper" == Value.type "builtin_function_or_method" || Value.type "method-wrapper" == Value.type "method-wrapper") = true := by decide
  simp only [callAny]
  refine wpAny_bind (m := load u) (wpAny_load hu ?_)
  simp only [kxs_mw, e1, if_true]
  refine (KFB.if_so (by decide) (wpAny_bind (check_bound_init F.excBase_ValueError.toExcCallFacts hC he rfl ?_)))
  refine (wpAny_bind (wpAny_pure (wpAny_pure (And.intro (plainId_quiet F.excBase_ValueError.init.plain _) (codeAny_builtin F.excBase_ValueError.initEntry ?_)))))
  have lz : [one].length ≤ sizeLine := by
    rw [sizeLine_eq]
    exact (by decide : 1 ≤ 16777216)
  exact exc_init_tree (cls := .ref C) (t0 := t0) (dv := none) (c2 := .none) (c3 := .none) (b4 := .bool false) he lz (fun h₄ k₄ hx₄ _ => hq h₄ _ k₄ hx₄)
theorem err_init (T : ErrTxt prog K C fI qn msg) {x t0 : Addr} {v : Value} (X : K.In s.heap) (lim : s.heap.NoLimit) (gl : s.heap.Ns mainGlobals mg) (bl : s.heap.Ns builtinsNs mb)
    (bb : ∀ x : Str, x ≠ "__name__" → mb x = bootBuiltins x) (hx : s.heap.get? x = some (excO C t0)) (hnx : K.lookup x = none) (room : A.depth < recursionLimit)
    (hq : ∀ h' tk dx t1, InitEnd s.heap h' x C dx t1 v → R (.ok (.ret .none)) { s with heap := h', toks := tk }) :
    codeAny (model prog w) A (.call (.ref fI) ⟨[.ref x, v], []⟩) R s := by
  obtain ⟨oc, od, doc, pm, an, cda, cc, ct, osl, kk, p1, p2, p3, p4, p5, p6, q1, q2, q3, q4, r1, r2, ccl, cl, cdd, cld, vs, ccs, csl, file, tf, ho, hcd, hcode, hvs, hfile, hcell, hline⟩ := T.fn
  obtain ⟨nm, q, N, bs, bm, sn, sub, ab, col, dd, k0, k1, k2, k3, k5, hC, hbm⟩ := T.cls
  have hzs := mg_none_of X gl T.zs
  obtain ⟨hp, g, dr, tk, os⟩ := s
  refine ks_codeAny_call_defAt (binds := [("self", .ref x), ("count", v)]) room (X _ _ ho) rfl lim (codeRec_of X hcd) rfl (BindsTo.of_eq (by first | rfl | with_unfolding_all rfl)) iS_nocell (iS_loc _ _) (fun h₁ hns k₁ => ?_) rfl rfl rfl
  have X₁ : K.In h₁ := X.keeps k₁
  have hx₁ := k₁ _ _ hx
  refine ks_wpAt_execs_cons (ks_wpAt_Expr_any (at_method hline (by first | rfl | with_unfolding_all rfl) ?_))
  refine ks_wpAt_super_base rfl rfl (by decide) rfl (X₁ _ _ ho) rfl rfl rfl (X₁ _ _ hcode) rfl hvs hfile T.htop ?_
  refine ks_loadName_global rfl rfl (loadGlobal_builtin (gl.keeps k₁) hzs (bl.keeps k₁) ((bb _ (by decide +kernel)).trans (by decide +kernel : bootBuiltins "super" = some (.type "super"))) ⟨rfl, ?_⟩)
  refine wpAny_loadName_free rfl rfl rfl ⟨_, X₁ _ _ hcell, rfl⟩ ?_
  refine wpAny_loadName_local rfl rfl hns (v := .ref x) (by first | rfl | with_unfolding_all rfl) ?_
  refine ks_wpAny_isType_cls (X₁ _ _ hC) rfl ⟨rfl, ?_⟩
  refine ks_wpAny_call_super (X₁ _ _ hC) rfl hx₁ rfl (fun c e => nomatch e) (looks_mroIn X₁ T.sub) (fun h₂ e₂ k₂ => ?_)
  have X₂ : K.In h₂ := X₁.keeps k₂
  have hx₂ := k₂ _ _ hx₁
  have I₂ : InstAt h₂ x (excO C t0) C none := ⟨hx₂, rfl, rfl, trivial⟩
  have hcl : clsIn K C = some { name := nm, bases := bs, mro := .ref C :: bm, ns := N, qualname := q, hasDict := true, slotNames := sn, subclasses := sub, abstract := ab, collection := col, hasDel := false } := by
    unfold clsIn
    rw [hC]
    all_goals rfl
  have hm := T.sup
  unfold ks_superIn at hm
  rw [hcl] at hm
  have hI : Looks (model prog w) h₂ (isInstance (.ref x) (.type "ValueError")) true := I₂.type.andThen (looks_subIn X₂ T.veC)
  have hxC : x ≠ C := fun z => by
    rw [z, hC] at hnx
    cases hnx
  refine kxs_getMethod kxs_ValueError e₂ (looks_opaque X₂ T.op) (l₀ := .ref C :: bm) ?_ rfl X₂ hm hI hxC (by decide +kernel) ?_
  · exact fun A Q E s k q => wpAny_bind ((looks_clsIn X₂ hcl) A _ E s k (wpAny_pure q))
  have hu : (h₂.push (kxs_mw "ValueError.__init__" x)).get? h₂.objs.size = some (kxs_mw "ValueError.__init__" x) := Heap.get?_push_at rfl rfl
  have k₃ : ∀ b o, h₂.get? b = some o → (h₂.push (kxs_mw "ValueError.__init__" x)).get? b = some o := fun b o e => Heap.get?_push_of_some _ e
  have X₃ : K.In (h₂.push (kxs_mw "ValueError.__init__" x)) := X₂.keeps k₃
  have hx₃ := k₃ _ _ hx₂
  refine kxs_callWith (i := "ValueError.__init__") (x := x) (by rfl) (evalArgs_plain ?_)
  refine Calls.spliced_cons (Calls.Constant_str (k := kk) (pos := p4) ?_)
  refine Calls.spliced_nil ⟨hu, ?_⟩
  refine sup_call (X₃ _ _ hC) hx₃ hu (fun h₄ t1 k₄ hx₄ => ?_)
  -- self.found = found
  have X₄ : K.In h₄ := fun a o e => k₄ a o (fun z => by rw [z, hnx] at e; cases e) (X₃ a o e)
  have hLx : hp.objs.size ≠ x := Nat.ne_of_gt (Heap.lt_size hx)
  have hn₄ := hns
  obtain ⟨oL, es, ep, eL, rL⟩ := hn₄
  have hn₄ : h₄.Ns hp.objs.size _ := ⟨oL, es, ep, k₄ _ _ hLx (k₃ _ _ (k₂ _ _ eL)), rL⟩
  have big : hp.objs.size < h₄.objs.size := hn₄.lt
  show _root_.PySem.wpAt _ _ _ (execs _ _) _ _ _
  refine _root_.PySem.wpAt_of_wpAny (wpAny_execs_cons (plainObj_wpAny_Assign_Attribute ?_))
  refine wpAny_Name (wpAny_loadName_local rfl rfl hn₄ (v := v) (by first | rfl | with_unfolding_all rfl) ?_) (by decide)
  refine wpAny_Name (wpAny_loadName_local rfl rfl hn₄ (v := .ref x) (by first | rfl | with_unfolding_all rfl) ?_) (by decide)
  refine set_plain X₄ (ox := excO C t1) (od := none) ⟨hx₄, rfl, rfl, trivial⟩ T.sa ?_
  refine HandSPX.exc_osa X₄ hx₄ hcl (show refsVE (.ref C :: bm) = true from hbm) rfl T.noN (fun h₅ tk₅ dx k₅ dn dne hx₅ hn₅ => ?_)
  show wpAny _ _ (execs _ _) _ _ _
  exact wpAny_execs_nil (hq h₅ tk₅ dx t1 ⟨fun b o hb e => k₅ b o hb (k₄ b o hb (k₃ b o (k₂ b o (k₁ b o e)))), hx₅, Nat.le_trans (Nat.le_of_lt big) dn, dne, hn₅⟩)
/-- an error that was made: its own dict d holds the thing -/
structure OwnMade (h h' : Heap) (e C d : Addr) (v : Value) : Prop where
  keep : ∀ b o, h.get? b = some o → h'.get? b = some o
  new : h.objs.size ≤ e
  obj : ∃ oe vs, h'.get? e = some oe ∧ oe.cls = .ref C ∧ oe.dict = some d ∧ oe.data = .fields vs ∧ vs[1]? = some .none
  dbig : h.objs.size ≤ d
  dne : d ≠ e
  ns : h'.Ns1 d (fun y => if y = "count" then some v else none)
theorem one_size (v : Value) : [v].length ≤ sizeLine := by
  rw [sizeLine_eq]
  exact (by decide : 1 ≤ 16777216)
theorem err_made (T : ErrTxt prog K C fI qn msg) {v : Value} (X : K.In s.heap) (lim : s.heap.NoLimit) (gl : s.heap.Ns mainGlobals mg) (bl : s.heap.Ns builtinsNs mb)
    (bb : ∀ x : Str, x ≠ "__name__" → mb x = bootBuiltins x) (room : A.depth + 1 < recursionLimit)
    (hq : ∀ h' tk e d, OwnMade s.heap h' e C d v → R (.ok (.ret (.ref e))) { s with heap := h', toks := tk }) :
    codeAny (model prog w) A (.call (.ref C) ⟨[v], []⟩) R s := by
  obtain ⟨nm, q, N, bs, bm, sn, sub, ab, col, dd, k0, k1, k2, k3, k5, hC, hbm⟩ := T.cls
  obtain ⟨hp, g, dr, tk, os⟩ := s
  have k : ∀ b o, hp.get? b = some o → ((hp.push (kdv_tup [v])).push (excO C hp.objs.size)).get? b = some o := fun b o e => Heap.get?_push_of_some _ (Heap.get?_push_of_some _ e)
  have hget : ((hp.push (kdv_tup [v])).push (excO C hp.objs.size)).get? (hp.objs.size + 1) = some (excO C hp.objs.size) := by heap_get
  have hnx : K.lookup (hp.objs.size + 1) = none := by
    cases e : K.lookup (hp.objs.size + 1) with
    | none => rfl
    | some o =>
      have z : hp.get? (hp.objs.size + 1) = some o := X _ _ e
      exact absurd (Nat.lt_of_succ_lt (Heap.lt_size z)) (Nat.lt_irrefl _)
  refine HandSPX.call_own F.excBase_ValueError (fun X => refsVE_contains X bm hbm) (X _ _ hC) (looks_findIn X T.iC) (fun self => bind_fn X self T.tC) (one_size v) ?_
  refine err_init (s := ⟨(hp.push (kdv_tup [v])).push (excO C hp.objs.size), g, dr, tk, os⟩) T (X.keeps k) (lim.keeps k) (gl.keeps k) (bl.keeps k) bb hget hnx ?_ fun h' tk' dx t1 ⟨k', hx, dn, dne, hns⟩ => ?_
  · show A.depth + 1 < recursionLimit
    exact room
  · have old : ∀ b o, hp.get? b = some o → h'.get? b = some o := fun b o e => k' b o (Nat.ne_of_lt (Nat.lt_succ_of_lt (Heap.lt_size e))) (k b o e)
    have z : hp.objs.size + 1 + 1 ≤ dx := by
      first
        | (simpa only [Heap.size_push] using dn)
        | exact dn
        | (have q := dn; rw [Heap.size_push, Heap.size_push] at q; exact q)
    exact ⟨rfl, hq h' tk' (hp.objs.size + 1) dx ⟨old, Nat.le_succ _, ⟨_, _, hx, rfl, rfl, rfl, rfl⟩, Nat.le_trans (Nat.le_trans (Nat.le_succ _) (Nat.le_succ _)) z, dne, hns⟩⟩
end
end Gc
namespace Gc
open PySem PySem.Spec PyProof.Rows L2
theorem relO_f {v : V} {v' : Value} (r : RelV v v') (f : Str) : RelO (List.lookup f [(("count" : Str), v)]) (if f = "count" then some v' else none) := by
  by_cases hw : f = "count"
  · subst hw
    rw [if_pos rfl]
    have q : List.lookup ("count" : Str) [(("count" : Str), v)] = some v := by simp [List.lookup]
    rw [q]
    exact r
  · rw [if_neg hw]
    have qw : (f == ("count" : Str)) = false := by simpa using hw
    have q2 : List.lookup f [(("count" : Str), v)] = none := by simp [List.lookup, qw]
    rw [q2]
    trivial
section
variable {X : Cx} {C fI : Addr} {qn msg cn : Str}
/-- E(e) -/
def tMkE (C : Addr) (ta : TA) : L2.St → Hp → XK → Prop := fun σ H Q => ta σ H fun vs H1 => ∃ v, vs = [v] ∧ ∀ d, H1 d = none → Q (.ref C) (some d) (upd H1 d (.xd [(("count" : Str), v)]))
theorem pmk_err {a : Expr} {ta : TA} {p pos : Pos} {k : Nat} (T : ErrTxt X.prog X.K C fI qn msg) (gC : X.mg cn = some (.ref C)) (hr : Room k X.A) (ha : PA X [a] ta) (hg : Gl X cn)
    (hdb : (cn == ("__debug__" : Str)) = false := by decide)
    (he : starEach (a :: []) X.env = (false, eval a X.env) :: starEach [] X.env := by rfl) (hpl : (backTo pos (starEach [] X.env)).any (·.1) = false := by rfl) :
    PMk X (.Call (.Name cn p) [a] [] pos) (tMkE C ta) := by
  intro pins s σ H Q I h
  apply wpAny_Call_Name_kw
  apply ld_glob I hg gC (hd := hdb)
  refine PySem.W.callWith_K (h₀ := X.base) I.ok.mod.kin T.kC (thn (ha.run pos pins s σ H _ I h) ?_) he hpl
  rintro us s1 ⟨vs, H1, I1, r1, v, ev, q1⟩
  subst ev
  refine ⟨I1.kIn, ?_⟩
  cases r1 with
  | cons rv rn =>
    rename_i v' us'
    cases rn
    show wpAny _ _ (call (.ref C) [v']) _ _ _
    have hlim := I1.nolimit
    have hgl := I1.mod.glob.keeps I1.bk
    obtain ⟨mb, hbl0, hbb⟩ := I1.mod.blt
    have hbl := hbl0.keeps I1.bk
    obtain ⟨hp, g, dr, tk, os⟩ := s1
    refine wpAny_call (err_made T I1.kIn hlim hgl hbl hbb (by have := hr.dp; omega) fun h' tk' e d M => ?_)
    show MkP X pins σ Q (.ref e) ⟨h', g, dr, tk', os⟩
    obtain ⟨oe, fv, hoe, hc, hd, hdat, h1⟩ := M.obj
    have hns := M.ns
    obtain ⟨G', g1, g2⟩ := restrict h' fun b => decide (b ≠ e)
    have gk : ∀ b, b ≠ e → G'.get? b = h'.get? b := fun b hb => g1 b (decide_eq_true hb)
    have ge : G'.get? e = none := g2 e (by simp)
    have old : ∀ b o, hp.get? b = some o → G'.get? b = some o := fun b o q => (gk b (Nat.ne_of_lt (Nat.lt_of_lt_of_le (Heap.lt_size q) M.new))).trans (M.keep b o q)
    have ob : ObjOk X.prog X.w (upd H1 d (.xd [(("count" : Str), v)])) G' d (.xd [(("count" : Str), v)]) :=
      ⟨_, hns.at (fun o q => (gk d M.dne).trans q), fun f => relO_f rv f⟩
    have J : Inv X pins σ (upd H1 d (.xd [(("count" : Str), v)])) ⟨G', g, dr, tk', os⟩ := I1.laid (t' := tk') old M.dbig ob
    refine ⟨e, oe, fv, ⟨G', g, dr, tk', os⟩, _, .ref C, some d, rfl, J, fun b o q => ?_, ge, hoe, ⟨hc, hd⟩, hdat, h1, ?_, rfl, I1.bare, raises_own T.exC T.tyC, q1 d (I1.hok.fresh M.dbig)⟩
    · by_cases hb : b = e
      · have q' : G'.get? b = some o := q
        rw [hb, ge] at q'
        cases q'
      · exact (gk b hb).symm.trans q
    · rw [upd_ne (Ne.symm M.dne)]
      exact I1.hok.fresh M.new
/-- raise E(e) -/
def tRaiseE (C : Addr) (W : WX) (ta : TA) : TS := fun _ σ H => tMkE C ta σ H fun cls d H' => W cls d σ H'
theorem ps_raiseE {a : Expr} {ta : TA} {W : WX} {p pos pos2 : Pos} {k : Nat} (hc : X.calm = true) (T : ErrTxt X.prog X.K C fI qn msg) (gC : X.mg cn = some (.ref C)) (hr : Room k X.A) (tk : Takes X W) (ha : PA X [a] ta) (hg : Gl X cn)
    (hdb : (cn == ("__debug__" : Str)) = false := by decide)
    (he : starEach (a :: []) X.env = (false, eval a X.env) :: starEach [] X.env := by rfl) (hpl : (backTo pos (starEach [] X.env)).any (·.1) = false := by rfl) :
    PS X (.Raise (some (.Call (.Name cn p) [a] [] pos)) none pos2) (tRaiseE C W ta) := ps_raise hc tk (pmk_err T gC hr ha hg hdb he hpl)
/-- e.found, e the exception that the suite holds (at a; its class cls, its dict d) -/
def tFound (C : Addr) (a : Addr) (cls : Value) (d : Option Addr) (te : TE) : TE := fun σ H Q => te σ H fun x H1 => x = .ref a ∧ cls = .ref C ∧ ∃ (dd : Addr) (v : V), d = some dd ∧ H1 dd = some (.xd [(("count" : Str), v)]) ∧ Q v H1
theorem pe_found {a : Addr} {oe : Obj} {cls : Value} {d : Option Addr} {pn : List (Addr × Obj)} {e : Expr} {te : TE} {pos : Pos} (T : ErrTxt X.prog X.K C fI qn msg) (hz : Zc cls d oe) (hf : ∃ vs, oe.data = .fields vs) (he : PE (X.suite a ((a, oe) :: pn)) e te)
    (hb : attributeBase e "count" X.env (eval e X.env) = eval e X.env := by rfl) :
    PE (X.suite a ((a, oe) :: pn)) (.Attribute e "count" pos) (tFound C a cls d te) := by
  constructor
  intro pins s σ H Q I h
  refine attr_of hb (thn (he.run pins s σ H _ I h) ?_)
  rintro u s1 ⟨x, H1, I1, rx, ex, ec, dd, v, ed, ea, q⟩
  subst ex
  obtain rfl : u = Value.ref a := rx
  subst ec
  subst ed
  have ha := (I1.pin (a, oe) (List.mem_append_left _ List.mem_cons_self)).1
  obtain ⟨vs, hd⟩ := hf
  have hx : ObjOk X.prog X.w H1 s1.heap dd (.xd [(("count" : Str), v)]) := I1.hok dd _ ea
  obtain ⟨mA, hns, hr⟩ := hx
  obtain ⟨od, ho, hl⟩ := lookIn_ns hns
  have l : List.lookup ("count" : Str) [(("count" : Str), v)] = some v := by simp [List.lookup]
  obtain ⟨u, hu, ru⟩ := RelO.some_of (v := v) (o := mA "count") (by rw [← l]; exact hr "count")
  have J : PySem.W.InstAt s1.heap a oe C (some od) := by
    refine ⟨ha, hz.1, ?_, by rw [hz.2]; exact ho⟩
    unfold PySem.W.notCls
    rw [hd]
    all_goals rfl
  exact HandSPX.exc_get I1.kIn J T.ga T.gg T.exC (PySem.W.findObj_own T.hdC T.noN rfl (by rw [hl, hu])) (handed_of ru) ⟨v, H1, I1.tok _, ru, q⟩
/-- what a class of errors must say so that isinstance asks it -/
structure IsTxt (K : PySem.W.Frag) (C : Addr) : Prop where
  ha : PySem.W.findIn K (.ref C) "__class__" = some (some (.builtin "object.__class__"))
  hn : PySem.W.specialIn K (.builtin "object.__class__") "__get__" = some (some (.builtin "getset_descriptor.__get__"))
  ht : PySem.W.takesIn K (.builtin "object.__class__") = some true
  hm : PySem.W.mroIn K C (.type "object") = some true
/-- isinstance(e, c), e the exception that the suite holds, with its own dict -/
def rIsF (K : PySem.W.Frag) (C a : Addr) (cls : Value) (d : Option Addr) : List V → Hp → VK → Prop := fun xs H Q => ∃ (c : V) (cv : Value) (b : Bool) (dd : Addr) (v : V), xs = [.ref a, c] ∧ cls = .ref C ∧ d = some dd ∧
  H dd = some (.xd [(("count" : Str), v)]) ∧ ClsV c cv ∧ PySem.W.kitOne K (.ref C) cv = some b ∧ Q (.bl b) H
theorem call_isF {a : Addr} {oe : Obj} {cls : Value} {d : Option Addr} {pn : List (Addr × Obj)} (T : ErrTxt X.prog X.K C fI qn msg) (S : IsTxt X.K C) (hz : Zc cls d oe) (hf : ∃ vs, oe.data = .fields vs) :
    CallR (X.suite a ((a, oe) :: pn)) (.builtin "isinstance") (rIsF X.K C a cls d) := by
  intro pins s σ H xs us Q I r h
  obtain ⟨c, cv, b, dd, v, rfl, rfl, rfl, ea, hcv, e, q⟩ := h
  obtain ⟨u1, u2, rfl, r1, r2⟩ := vals2 r
  cases (show u1 = Value.ref a from r1)
  have e2 := hcv.eq r2
  subst e2
  have ha := (I.pin (a, oe) (List.mem_append_left _ List.mem_cons_self)).1
  obtain ⟨vs, hd⟩ := hf
  have hx : ObjOk X.prog X.w H s.heap dd (.xd [(("count" : Str), v)]) := I.hok dd _ ea
  obtain ⟨mA, hns, _⟩ := hx
  obtain ⟨od, ho, _⟩ := lookIn_ns hns
  have J : PySem.W.InstAt s.heap a oe C (some od) := by
    refine ⟨ha, hz.1, ?_, by rw [hz.2]; exact ho⟩
    unfold PySem.W.notCls
    rw [hd]
    all_goals rfl
  have hcl : (PySem.W.clsIn X.K C).isSome = true := by
    obtain ⟨cd, hc, _⟩ := PySem.W.any_some T.hdC
    rw [hc]
    rfl
  exact PySem.W.kia_one (PySem.W.kitx_exc hcl T.ga T.gg T.exC S.ha S.hn S.ht S.hm) I.kIn J e (fun z => nomatch z) fun tk => ⟨.bl b, H, I.kept (t' := tk) fun _ _ z => z, rfl, q⟩
end
end Gc
set_option maxHeartbeats 1000000
/-! isinstance of the exception that the suite holds, asked with a tuple of classes. -/
namespace Ge
open PySem PySem.Spec PyProof.Rows L2 Gd
def rIsFT (K : PySem.W.Frag) (C a : Addr) (cls : Value) (d : Option Addr) : List V → Hp → VK → Prop := fun xs H Q => ∃ (tp : Addr) (cs : List V) (ws : List Value) (b : Bool) (dd : Addr) (v : V), xs = [.ref a, .ref tp] ∧ cls = .ref C ∧ d = some dd ∧
  H dd = some (.xd [(("found" : Str), v)]) ∧ H tp = some (.tup cs) ∧ Paired ClsV cs ws ∧ PySem.W.kitAny K (.ref C) ws = some b ∧ Q (.bl b) H
section
variable {X : Cx} {C fI : Addr} {qn msg : Str}
theorem call_isFT {a : Addr} {oe : Obj} {cls : Value} {d : Option Addr} {pn : List (Addr × Obj)} (T : ErrTxt X.prog X.K C fI qn msg) (S : IsTxt X.K C) (hz : Zc cls d oe) (hf : ∃ vs, oe.data = .fields vs) :
    CallR (X.suite a ((a, oe) :: pn)) (.builtin "isinstance") (rIsFT X.K C a cls d) := by
  intro pins s σ H xs us Q I r h
  obtain ⟨tp, cs, ws, b, dd, v, rfl, rfl, rfl, ea, hT, k, e, q⟩ := h
  obtain ⟨u1, u2, rfl, r1, r2⟩ := vals2 r
  cases (show u1 = Value.ref a from r1)
  cases (show u2 = Value.ref tp from r2)
  have ha := (I.pin (a, oe) (List.mem_append_left _ List.mem_cons_self)).1
  obtain ⟨vs, hd⟩ := hf
  have hx : ObjOk X.prog X.w H s.heap dd (.xd [(("found" : Str), v)]) := I.hok dd _ ea
  obtain ⟨mA, hns, _⟩ := hx
  obtain ⟨od, ho, _⟩ := lookIn_ns hns
  have J : PySem.W.InstAt s.heap a oe C (some od) := by
    refine ⟨ha, hz.1, ?_, by rw [hz.2]; exact ho⟩
    unfold PySem.W.notCls
    rw [hd]
    all_goals rfl
  have hcl : (PySem.W.clsIn X.K C).isSome = true := by
    obtain ⟨cd, hc, _⟩ := PySem.W.any_some T.hdC
    rw [hc]
    rfl
  obtain ⟨_, its, rv, o, h1, h2, n, h3⟩ := (show ObjOk X.prog X.w H s.heap tp (.tup cs) from I.hok tp _ hT)
  have e3 := ClsV.all k rv
  subst e3
  obtain ⟨oc, od2, dt, sl⟩ := o
  simp only at h2 h3
  subst h2 h3
  exact PySem.W.kia_tup (PySem.W.kitx_exc hcl T.ga T.gg T.exC S.ha S.hn S.ht S.hm) I.kIn J h1 e (fun z => nomatch z) fun tk => ⟨.bl b, H, I.kept (t' := tk) fun _ _ z => z, rfl, q⟩
end
end Ge
namespace Gc
open PySem PySem.Spec PyProof.Rows L2 Gd
def rIsFT (K : PySem.W.Frag) (C a : Addr) (cls : Value) (d : Option Addr) : List V → Hp → VK → Prop := fun xs H Q => ∃ (tp : Addr) (cs : List V) (ws : List Value) (b : Bool) (dd : Addr) (v : V), xs = [.ref a, .ref tp] ∧ cls = .ref C ∧ d = some dd ∧
  H dd = some (.xd [(("count" : Str), v)]) ∧ H tp = some (.tup cs) ∧ Paired ClsV cs ws ∧ PySem.W.kitAny K (.ref C) ws = some b ∧ Q (.bl b) H
section
variable {X : Cx} {C fI : Addr} {qn msg : Str}
theorem call_isFT {a : Addr} {oe : Obj} {cls : Value} {d : Option Addr} {pn : List (Addr × Obj)} (T : ErrTxt X.prog X.K C fI qn msg) (S : IsTxt X.K C) (hz : Zc cls d oe) (hf : ∃ vs, oe.data = .fields vs) :
    CallR (X.suite a ((a, oe) :: pn)) (.builtin "isinstance") (rIsFT X.K C a cls d) := by
  intro pins s σ H xs us Q I r h
  obtain ⟨tp, cs, ws, b, dd, v, rfl, rfl, rfl, ea, hT, k, e, q⟩ := h
  obtain ⟨u1, u2, rfl, r1, r2⟩ := vals2 r
  cases (show u1 = Value.ref a from r1)
  cases (show u2 = Value.ref tp from r2)
  have ha := (I.pin (a, oe) (List.mem_append_left _ List.mem_cons_self)).1
  obtain ⟨vs, hd⟩ := hf
  have hx : ObjOk X.prog X.w H s.heap dd (.xd [(("count" : Str), v)]) := I.hok dd _ ea
  obtain ⟨mA, hns, _⟩ := hx
  obtain ⟨od, ho, _⟩ := lookIn_ns hns
  have J : PySem.W.InstAt s.heap a oe C (some od) := by
    refine ⟨ha, hz.1, ?_, by rw [hz.2]; exact ho⟩
    unfold PySem.W.notCls
    rw [hd]
    all_goals rfl
  have hcl : (PySem.W.clsIn X.K C).isSome = true := by
    obtain ⟨cd, hc, _⟩ := PySem.W.any_some T.hdC
    rw [hc]
    rfl
  obtain ⟨_, its, rv, o, h1, h2, n, h3⟩ := (show ObjOk X.prog X.w H s.heap tp (.tup cs) from I.hok tp _ hT)
  have e3 := ClsV.all k rv
  subst e3
  obtain ⟨oc, od2, dt, sl⟩ := o
  simp only at h2 h3
  subst h2 h3
  exact PySem.W.kia_tup (PySem.W.kitx_exc hcl T.ga T.gg T.exC S.ha S.hn S.ht S.hm) I.kIn J h1 e (fun z => nomatch z) fun tk => ⟨.bl b, H, I.kept (t' := tk) fun _ _ z => z, rfl, q⟩
end
end Gc
/-! Defs that raise, their promise kept where no repr is under way. -/
namespace Gd
open PySem PySem.Spec PyProof.Rows L2
structure CalX (P : Program) (w : World) (K : PySem.W.Frag) (mg : Str → Option Value) (base : Heap) (k : Nat) (x : Str) (sp : Sp) : Prop where
  ex : ∃ (f : Addr) (fd : FuncData) (ps : List Str), FnG P w K mg base (L2.CX P w) k f fd ps sp ∧ mg x = some (.ref f) ∧
    PySem.W.keepIn K (.ref f) = true ∧ Binds K fd ps []
section
variable {P : Program} {w : World} {K : PySem.W.Frag} {mg : Str → Option Value} {base : Heap}
theorem okGX {x qual : Str} {st : Stmt} {f : Addr} {fd : FuncData} {N ps : List Str} {k : Nat} {sp : Sp}
    (F : Fun K x qual st f fd) (S : FnScope N ps (defScope st))
    (ar : ∀ vs H Q E, sp vs H Q E → vs.length = ps.length)
    (bd : ∀ (cdv : Value) (A : Around) (outer : List Env) (s : Shared) (H : Hp) (vs : List V) (Q : VK) (E : XK),
      A.guards = some [] → Room k (A.deeper (envOfC qual (defScope st) s.heap.objs.size f cdv)) → sp vs H Q E →
      ∃ t, PSs (cxOf (L2.CX P w) P w K mg base N qual (defScope st) f cdv A outer s H E) (defBody st) t ∧
        t { nx := fun _ H' => Q .non H', rt := Q } (start N vs) H) :
    FnG P w K mg base (L2.CX P w) (k + 1) f fd ps sp := by
  obtain ⟨oc, od, kV, doc, pm, an, cdv, ct, osl, rfl, lk, cin⟩ := F.ex
  exact fnG_of lk cin S ar fun A outer s H vs Q E hG room prem => bd cdv A outer s H vs Q E hG room prem
theorem DefAt.calX {x : Str} {st : Stmt} {N ps : List Str} {k : Nat} {sp : Sp} (D : DefAt K mg x st ps) (S : FnScope N ps (defScope st))
    (ar : ∀ vs H Q E, sp vs H Q E → vs.length = ps.length)
    (bd : ∀ (f : Addr) (cdv : Value) (A : Around) (outer : List Env) (s : Shared) (H : Hp) (vs : List V) (Q : VK) (E : XK),
      A.guards = some [] → Room k (A.deeper (envOfC x (defScope st) s.heap.objs.size f cdv)) → sp vs H Q E →
      ∃ t, PSs (cxOf (L2.CX P w) P w K mg base N x (defScope st) f cdv A outer s H E) (defBody st) t ∧
        t { nx := fun _ H' => Q .non H', rt := Q } (start N vs) H) : CalX P w K mg base (k + 1) x sp := by
  obtain ⟨f, fd, F, m, b⟩ := D.ex
  exact ⟨f, fd, ps, okGX F S ar (bd f), m, F.kp, b⟩
end
section
variable {X : Cx} {k : Nat} {sp : Sp} {x : Str} {p pos : Pos} {e : Expr} {es : List Expr} {t : TA} {E : L2.St → XK}
theorem enterX {CX : CXT} {f : Addr} {fd : FuncData} {ps : List Str} {pins : List (Addr × Obj)} {σ : L2.St} {H : Hp} {s : Shared} {Q : VK} {us : List Value} {vs : List V} (F : FnG X.prog X.w X.K X.mg X.base CX k f fd ps sp) (hG : X.A.guards = some []) (hr : Room k X.A) (hb : Binds X.K fd ps []) (hx : PassesAt CX X σ (E σ))
    (I : Inv X pins σ H s) (r : Vals vs us) (h : sp vs H Q (E σ)) : wpAny (model X.prog X.w) X.A (call (.ref f) us) (EP X pins σ Q) X.xe s := by
  have hl : us.length = ps.length := r.length ▸ F.arity _ _ _ _ h
  have b := hb s us I.kIn (by rw [List.append_nil]; exact hl)
  rw [List.append_nil] at b
  apply wpAny_call
  apply codeAny_mono (F.go X.A X.stack s H ⟨us, []⟩ us vs Q (E σ) hG hr I.env0 b r h)
  intro r s' hq
  match r, hq with
  | .error e, hq => exact hx pins H s e s' I hq
  | .ok (.ret u), hq => exact I.after hq
  | .ok .next, hq => exact hq.elim
  | .ok .brk, hq => exact hq.elim
  | .ok .cont, hq => exact hq.elim
/-- f(e, ..) of a def that may raise, its promise kept where no repr is under way -/
theorem pe_gx {W : WX} (c : CalX X.prog X.w X.K X.mg X.base k x sp) (hG : X.A.guards = some []) (hr : Room k X.A) (hg : Gl X x) (tk : Takes X W)
    (ha : PA X (e :: es) t) (hdb : (x == ("__debug__" : Str)) = false := by decide)
    (he : starEach (e :: es) X.env = (false, eval e X.env) :: starEach es X.env := by rfl)
    (hpl : (backTo pos (starEach es X.env)).any (·.1) = false := by rfl) :
    PE X (.Call (.Name x p) (e :: es) [] pos) (tCallS sp (WE W) t) := by
  obtain ⟨f, fd, ps, F, m, kp, b⟩ := c.ex
  constructor
  intro pins s σ H Q J prem
  have arg := ha.run pos pins s σ H _ J prem
  apply wpAny_Call_Name_kw
  apply ld_glob J hg m (hd := hdb)
  apply PySem.W.callWith_K (h₀ := X.base) J.ok.mod.kin kp (he := he) (hplain := hpl)
  apply thn arg
  rintro us s1 ⟨vs, H1, J1, rel, q⟩
  exact ⟨J1.kIn, enterX (E := WE W) F hG hr b (passAt tk σ) J1 rel q⟩
/-- the same, where it raises nothing -/
theorem pe_gN (c : CalX X.prog X.w X.K X.mg X.base k x sp) (hG : X.A.guards = some []) (hr : Room k X.A) (hg : Gl X x)
    (ha : PA X (e :: es) t) (hdb : (x == ("__debug__" : Str)) = false := by decide)
    (he : starEach (e :: es) X.env = (false, eval e X.env) :: starEach es X.env := by rfl)
    (hpl : (backTo pos (starEach es X.env)).any (·.1) = false := by rfl) :
    PE X (.Call (.Name x p) (e :: es) [] pos) (tCall sp [] E0 t) := by
  obtain ⟨f, fd, ps, F, m, kp, b⟩ := c.ex
  exact pe_callG F hG hr hg m kp b .nil passL ha hdb he hpl
end
end Gd
/-! A method whose body begins with a call of super().m(..), an own class's, the method that it finds a def that keeps its promise. -/
namespace Gs
open PySem PySem.Spec PyProof.Rows L2 Gd NdefX
open PySem.Calls
open PySem.W (Frag ksFn ks_superIn ks_loadName_global looks_mroIn looks_opaque looks_clsIn clsIn)
/-- what the written part says of the def F at f, of class D, and of super().m in it, g above D as seen from C -/
structure SupTxt (P : Program) (K : Frag) (C D f g cc : Addr) (F : NF) (m : Str) : Prop where
  fn : ∃ (oc : Value) (od : Option Addr) (doc pm : Value) (an : Option Addr) (ct : Value) (osl : Array (Option Value)),
    K.lookup f = some ⟨oc, od, .func (ksFn F.name F.qual F.params F.body F.scope .none .none doc pm an (.ref F.c) ct cc), osl⟩
  cl : F.cl = [(("__class__" : Str), cc)]
  code : PySem.W.codeIn K (.ref F.c) F.qual = true
  cod : ∃ (ccl : Value) (cdd : Option Addr) (vs : Array Value) (ccs : Array (Option Value)) (file : Str) (tf : Tok),
    K.lookup F.c = some ⟨ccl, cdd, .fields vs, ccs⟩ ∧ vs[2]? = some (.str file tf) ∧ ((P.main.file : Str) == file) = true
  cell : ∃ (cv : Value) (cd : Option Addr) (csl : Array (Option Value)), K.lookup cc = some ⟨cv, cd, .cell (some (.ref D)), csl⟩
  isD : ∃ cd, clsIn K D = some cd
  sub : PySem.W.mroIn K C (.ref D) = some true
  sup : ks_superIn K C D m = some (some (.ref g))
  ty : PySem.W.typeIn K (.ref g) = some (.type "function")
  fg : PySem.W.fnIn K g = true
  op : PySem.W.nsIn K cStatics "thirdparty.any" = some none
  zs : PySem.W.nsIn K mainGlobals "super" = some none
  htop : (P.main.scope.names.lookup ("super" : Str)).isSome = false
  hm : (m == ("__class__" : Str)) = false
  hks : F.scope.names.lookup ("super" : Str) = some .globalImplicit
  hkc : F.scope.names.lookup ("__class__" : Str) = some .free
  hself : F.scope.names.lookup ("self" : Str) = some .local
  arg : ∃ ar, (F.params.posonlyargs ++ F.params.args).head? = some ar ∧ ar.arg = "self"
section
variable {CX : CXT} {P : Program} {w : World} {K : Frag} {mg : Str → Option Value} {base : Heap} {N : List Str} {F : NF} {f g C D cc : Addr} {A : Around} {outer : List Env} {s0 : Shared} {H0 : Hp} {E0 : XK} {m : Str}
theorem at_super {body : List Stmt} {p0 p1 apos pos : Pos} {args : List Expr} {s : Shared} {pins : List (Addr × Obj)} {σ : L2.St} {H : Hp} {x dx : Addr} {fs : List (Str × V)} {Q : Value → Shared → Prop}
    (T : SupTxt P K C D f g cc F m) (hline : (apos.endLine == pos.line) = true)
    (hform : methodCallForm (args.length + ([] : List Keyword).length) (backTo pos (starEach args (envF F f s0.heap.objs.size))) (backToKw pos (keywordEach [] (envF F f s0.heap.objs.size))) = true)
    (I : Inv (ncx CX P w K mg base N F f A outer s0 H0 E0) pins σ H s) (hN : N[0]? = some ("self" : Str)) (hσ : σ[0]? = some (some (.ref x))) (hx : H x = some (.ins C dx fs))
    (h : ∀ (q : Addr) (s' : Shared), Inv (ncx CX P w K mg base N F f A outer s0 H0 E0) (pins ++ [(q, PySem.W.methodObj (.ref g) (.ref x))]) σ H s' →
      wpAny (model P w) (ncx CX P w K mg base N F f A outer s0 H0 E0).A (callWith pos (.ref q) [] (backTo pos (starEach args (envF F f s0.heap.objs.size))) (backToKw pos (keywordEach [] (envF F f s0.heap.objs.size)))) Q (ncx CX P w K mg base N F f A outer s0 H0 E0).xe s') :
    _root_.PySem.wpAt (model P w) (ncx CX P w K mg base N F f A outer s0 H0 E0).A (.func body (envF F f s0.heap.objs.size))
      (eval (.Call (.Attribute (.Call (.Name "super" p0) [] [] p1) m apos) args [] pos) (envF F f s0.heap.objs.size)) Q (ncx CX P w K mg base N F f A outer s0 H0 E0).xe s := by
  obtain ⟨oc, od, doc, pm, an, ct, osl, hf⟩ := T.fn
  obtain ⟨ccl, cdd, vs, ccs, file, tf, hcode, hvs, hfile⟩ := T.cod
  obtain ⟨cv, cd0, csl, hcell⟩ := T.cell
  obtain ⟨ar, harg, hself⟩ := T.arg
  obtain ⟨cdD, hD⟩ := T.isD
  have X := I.kIn
  obtain ⟨mb, hbl0, hbb⟩ := I.mod.blt
  have hgl := I.mod.glob.keeps I.bk
  have hbl := hbl0.keeps I.bk
  have hzs := PySem.W.mg_none_of I.mod.kin I.mod.glob T.zs
  obtain ⟨mA, O, _⟩ := ins_get I.hok hx
  obtain ⟨ml, hns, look⟩ := I.loc
  refine Ge.at_method hline hform ?_
  refine ks_wpAt_super_base T.hks T.hkc T.hm rfl (X _ _ hf) rfl harg rfl (X _ _ hcode) rfl hvs hfile T.htop ?_
  refine ks_loadName_global I.ok.kind T.hks (loadGlobal_builtin hgl hzs hbl ((hbb _ (by decide +kernel)).trans (by decide +kernel : bootBuiltins "super" = some (.type "super"))) ⟨rfl, ?_⟩)
  refine wpAny_loadName_free I.ok.kind T.hkc (by show F.cl.lookup _ = _; rw [T.cl]; rfl) ⟨_, X _ _ hcell, rfl⟩ ?_
  have eS : (ncx CX P w K mg base N F f A outer s0 H0 E0).env.scope.names.lookup ("self" : Str) = some .local := T.hself
  obtain ⟨u, ru, lk⟩ := look 0 ("self" : Str) (.ref x) hN hσ (.inl eS)
  have hml : ml ("self" : Str) = some (.ref x) := by
    rcases lk with ⟨_, z⟩ | ⟨z, _⟩
    · rw [z]
      exact congrArg some ru
    · rcases z with z | z
      · have : some NameKind.local = some NameKind.cell := eS.symm.trans z
        cases this
      · have : some NameKind.local = some NameKind.free := eS.symm.trans z
        cases this
  refine wpAny_loadName_local I.ok.kind (by rw [hself]; exact T.hself) hns (v := .ref x) (by rw [hself]; exact hml) ?_
  obtain ⟨oD, hD1, hD2⟩ : ∃ oD, s.heap.get? D = some oD ∧ oD.data = .cls cdD := by
    unfold clsIn at hD
    split at hD
    · rename_i c d cd' sl ho
      cases hD
      exact ⟨_, X _ _ ho, rfl⟩
    · cases hD
  refine ks_wpAny_isType_cls hD1 hD2 ⟨rfl, ?_⟩
  obtain ⟨hp, gs, dr, tk, os⟩ := s
  refine ks_wpAny_call_super hD1 hD2 O.obj rfl (fun c e => nomatch e) (looks_mroIn X T.sub) (fun h₂ e₂ k₂ => ?_)
  have J2 : Inv (ncx CX P w K mg base N F f A outer s0 H0 E0) pins σ H ⟨h₂, gs, dr, tk, os⟩ := I.kept (t' := tk) k₂
  have X₂ := J2.kIn
  have hsup := T.sup
  cases hc : clsIn K C with
  | none =>
    unfold ks_superIn at hsup
    rw [hc] at hsup
    cases hsup
  | some cd =>
    unfold ks_superIn at hsup
    rw [hc] at hsup
    obtain ⟨of, hof, hofc⟩ : ∃ of, h₂.get? g = some of ∧ of.cls = .type "function" := by
      have ht := T.ty
      have ht' : (K.lookup g).map (·.cls) = some (.type "function") := ht
      cases z : K.lookup g with
      | none =>
        rw [z] at ht'
        cases ht'
      | some of =>
        rw [z] at ht'
        exact ⟨of, X₂ _ _ z, Option.some.inj ht'⟩
    have hxC : x ≠ C := fun e => by
      unfold clsIn at hc
      cases z : K.lookup C with
      | none =>
        rw [z] at hc
        cases hc
      | some oC =>
        have hb := I.mod.kin _ _ z
        have := (I.bs C oC hb).2
        rw [← e, hx] at this
        cases this
    refine ks_wpAny_getMethod_super e₂ (looks_opaque X₂ T.op) (l₀ := cd.mro) ?_ rfl X₂ hsup hof hofc hxC T.hm ?_
    · exact fun A Q E s k q => wpAny_bind ((looks_clsIn X₂ hc) A _ E s k (wpAny_pure q))
    · have k₃ : ∀ b o, h₂.get? b = some o → (h₂.push (PySem.W.methodObj (.ref g) (.ref x))).get? b = some o := fun b o e => Heap.get?_push_of_some _ e
      have J3 : Inv (ncx CX P w K mg base N F f A outer s0 H0 E0) pins σ H ⟨h₂.push (PySem.W.methodObj (.ref g) (.ref x)), gs, dr, tk + 1, os⟩ := J2.kept (t' := tk + 1) k₃
      refine h h₂.objs.size _ (J3.pins_of fun p hp => ?_)
      rcases List.mem_append.mp hp with hp | hp
      · exact J3.pin p (List.mem_append_right _ hp)
      · rw [List.mem_singleton.mp hp]
        refine ⟨Heap.get?_push_at rfl rfl, J2.hok.fresh (Nat.le_refl _), Nat.ne_of_gt J2.lt, J2.nofs (Nat.le_refl _), fun v e => nomatch e⟩
/-- a call of the found method, its self bound -/
theorem run_bound {X : Cx} {CX2 : CXT} {k : Nat} {g q x : Addr} {fd : FuncData} {ps : List Str} {sp : Sp} {E : XK} {pins : List (Addr × Obj)} {σ : L2.St} {H : Hp} {s : Shared} {Q : VK} {us : List Value} {vs : List V}
    (G : FnOk X.prog X.w X.K X.mg X.base CX2 k g fd ps sp) (hr : Room k X.A) (hb : Binds X.K fd ps []) (hx : Passes CX2 X E) (I : Inv X pins σ H s)
    (hq : s.heap.get? q = some (PySem.W.methodObj (.ref g) (.ref x))) (r : Vals vs us) (h : sp (.ref x :: vs) H Q E) :
    wpAny (model X.prog X.w) X.A (call (.ref q) us) (EP X pins σ Q) X.xe s := by
  have r2 : Vals (.ref x :: vs) (.ref x :: us) := .cons rfl r
  have long : (Value.ref x :: us).length = ps.length := r2.length ▸ G.len _ _ _ _ h
  have b := hb s (.ref x :: us) I.kIn (by rw [List.append_nil]; exact long)
  rw [List.append_nil] at b
  apply wpAny_call
  apply ks_codeAny_call_bound hq
  apply codeAny_mono (G.run X.A X.stack s H ⟨.ref x :: us, []⟩ (.ref x :: us) (.ref x :: vs) Q E hr I.env0 b r2 h)
  intro r s' hs
  match r, hs with
  | .error _, hs => exact hx pins σ H s _ s' I hs
  | .ok (.ret _), hs => exact I.after hs
  | .ok .next, hs => exact hs.elim
  | .ok .brk, hs => exact hs.elim
  | .ok .cont, hs => exact hs.elim
/-- super().m(e, ..) as a value -/
theorem eval_super {CX2 : CXT} {k : Nat} {fd : FuncData} {ps : List Str} {sp : Sp} {E : XK} {body : List Stmt} {p0 p1 apos pos : Pos} {e : Expr} {es : List Expr} {ta : TA} {s : Shared} {pins : List (Addr × Obj)} {σ : L2.St} {H : Hp} {x dx : Addr} {fs : List (Str × V)} {Q : VK}
    (T : SupTxt P K C D f g cc F m) (hline : (apos.endLine == pos.line) = true)
    (hform : methodCallForm ((e :: es).length + ([] : List Keyword).length) (backTo pos (starEach (e :: es) (envF F f s0.heap.objs.size))) (backToKw pos (keywordEach [] (envF F f s0.heap.objs.size))) = true)
    (I : Inv (ncx CX P w K mg base N F f A outer s0 H0 E0) pins σ H s) (hN : N[0]? = some ("self" : Str)) (hσ : σ[0]? = some (some (.ref x))) (hx : H x = some (.ins C dx fs))
    (G : FnOk P w K mg base CX2 k g fd ps sp) (hr : Room k (ncx CX P w K mg base N F f A outer s0 H0 E0).A) (hb : Binds K fd ps []) (hp : Passes CX2 (ncx CX P w K mg base N F f A outer s0 H0 E0) E)
    (ha : PA (ncx CX P w K mg base N F f A outer s0 H0 E0) (e :: es) ta)
    (he : starEach (e :: es) (envF F f s0.heap.objs.size) = (false, eval e (envF F f s0.heap.objs.size)) :: starEach es (envF F f s0.heap.objs.size))
    (hpl : (backTo pos (starEach es (envF F f s0.heap.objs.size))).any (·.1) = false)
    (h : ta σ H fun vs H1 => sp (.ref x :: vs) H1 Q E) :
    _root_.PySem.wpAt (model P w) (ncx CX P w K mg base N F f A outer s0 H0 E0).A (.func body (envF F f s0.heap.objs.size))
      (eval (.Call (.Attribute (.Call (.Name "super" p0) [] [] p1) m apos) (e :: es) [] pos) (envF F f s0.heap.objs.size)) (EP (ncx CX P w K mg base N F f A outer s0 H0 E0) pins σ Q) (ncx CX P w K mg base N F f A outer s0 H0 E0).xe s := by
  refine at_super T hline hform I hN hσ hx fun q s' J => ?_
  have run := ha.run pos _ s' σ H _ J h
  rw [show starEach (e :: es) (envF F f s0.heap.objs.size) = _ from he]
  rw [show starEach (e :: es) (ncx CX P w K mg base N F f A outer s0 H0 E0).env = _ from he] at run
  apply PySem.W.callWith_of (P := PySem.W.MethP K q g (.ref x)) (by show ((false || (backTo pos (starEach es _)).any (·.1)) || false) = false; rw [hpl]; rfl) (PySem.W.keeps_M T.fg)
  apply evalArgs_plain
  apply thn run
  rintro us s1 ⟨vs, H1, J1, rel, q1⟩
  have hq := (J1.pin (q, PySem.W.methodObj (.ref g) (.ref x)) (List.mem_append_right _ (List.mem_append_right _ List.mem_cons_self))).1
  refine ⟨⟨hq, J1.kIn⟩, ?_⟩
  refine wpAny_mono (run_bound (pins := pins ++ [(q, PySem.W.methodObj (.ref g) (.ref x))]) G hr hb hp J1 hq rel q1) (fun v s2 hv => ?_) fun _ _ z => z
  obtain ⟨y, H2, J2, ry, qy⟩ := hv
  exact ⟨y, H2, J2.pins_of fun p hp => J2.pin p (List.mem_append_right _ (List.mem_append_left _ hp)), ry, qy⟩
theorem cells_at (T : SupTxt P K C D f g cc F m) (e0 : Env0 P w K mg base A outer s0 H0) : CellsAt F.cl ["__class__"] [some (.ref D)] s0.heap H0 := by
  obtain ⟨cv, cd0, csl, hcell⟩ := T.cell
  have hb := e0.mod.kin _ _ hcell
  obtain ⟨h1, h2⟩ := e0.bs _ _ hb
  have hl : ∀ y c, F.cl.lookup y = some c → y = ("__class__" : Str) ∧ c = cc := fun y c z => by
    rw [T.cl] at z
    by_cases e : y = ("__class__" : Str)
    · subst e
      refine ⟨rfl, ?_⟩
      simpa [List.lookup] using z.symm
    · have e2 : (y == ("__class__" : Str)) = false := by simpa using e
      simp [List.lookup, e2] at z
  refine ⟨rfl, fun y c z => ?_, fun a b c z1 z2 => (hl a c z1).1.trans (hl b c z2).1.symm, fun i y z => ?_⟩
  · rw [(hl y c z).2]
    exact ⟨h2, _, _, h1, rfl⟩
  · cases i with
    | zero =>
      cases (show some ("__class__" : Str) = some y from z)
      refine ⟨cc, by rw [T.cl]; simp [List.lookup], fun v ev => ?_⟩
      cases (show some (some (V.ref D)) = some (some v) from ev)
      exact ⟨.ref D, rfl, _, h1, rfl⟩
    | succ n => cases z
/-- a def y = super().m(e, ..); .. keeps its promise -/
theorem okS_set {CX2 : CXT} {k i : Nat} {fd2 : FuncData} {ps ps2 : List Str} {sp sp2 : Sp} {p0 p1 apos pos py pst : Pos} {e : Expr} {es : List Expr} {st : List Stmt} {y : Str}
    {oc : Value} {od : Option Addr} {doc pm : Value} {an : Option Addr} {ct : Value} {osl : Array (Option Value)}
    (T : SupTxt P K C D f g cc F m) (hf : K.lookup f = some ⟨oc, od, .func (ksFn F.name F.qual F.params F.body F.scope .none .none doc pm an (.ref F.c) ct cc), osl⟩)
    (S : NScope N ps ["__class__"] F.scope)
    (hbd : F.body = .Assign [.Name y py] (.Call (.Attribute (.Call (.Name "super" p0) [] [] p1) m apos) (e :: es) [] pos) pst :: st)
    (ar : ∀ vs H Q E, sp vs H Q E → vs.length = ps.length) (hN : N[0]? = some ("self" : Str)) (hi : N[i]? = some y) (hy : F.scope.names.lookup y = some .local)
    (G : FnOk P w K mg base CX2 k g fd2 ps2 sp2) (hb2 : Binds K fd2 ps2 [])
    (hline : (apos.endLine == pos.line) = true)
    (hform : ∀ L, methodCallForm ((e :: es).length + ([] : List Keyword).length) (backTo pos (starEach (e :: es) (envF F f L))) (backToKw pos (keywordEach [] (envF F f L))) = true)
    (he : ∀ L, starEach (e :: es) (envF F f L) = (false, eval e (envF F f L)) :: starEach es (envF F f L))
    (hpl : ∀ L, (backTo pos (starEach es (envF F f L))).any (·.1) = false)
    (hsw : ∀ L, swapsWith (.Call (.Attribute (.Call (.Name "super" p0) [] [] p1) m apos) (e :: es) [] pos) (some (.Name y py)) pst.line (envF F f L) = pure false)
    (bd : ∀ (A : Around) (outer : List Env) (s : Shared) (H : Hp) (vs : List V) (Q : VK) (E : XK), Room k (A.deeper (envF F f s.heap.objs.size)) → sp vs H Q E →
      ∃ (x dx : Addr) (fs : List (Str × V)) (E2 : XK) (ta : TA) (tr : TS), (startF N vs [some (.ref D)])[0]? = some (some (.ref x)) ∧ H x = some (.ins C dx fs) ∧ Passes CX2 (ncx CX P w K mg base N F f A outer s H E) E2 ∧
        PA (ncx CX P w K mg base N F f A outer s H E) (e :: es) ta ∧ PSs (ncx CX P w K mg base N F f A outer s H E) st tr ∧
        ta (startF N vs [some (.ref D)]) H fun ws H1 => sp2 (.ref x :: ws) H1 (fun v H2 => tr { nx := fun _ H' => Q .non H', rt := Q } ((startF N vs [some (.ref D)]).set i (some v)) H2) E2) :
    FnOk P w K mg base CX (k + 1) f (ksFn F.name F.qual F.params F.body F.scope .none .none doc pm an (.ref F.c) ct cc) ps sp := by
  refine ⟨ar, fun A outer s H args us vs Q E room env bind rel prem => ?_⟩
  have kin : K.In s.heap := env.mod.kin.keeps fun b o z => (env.bs b o z).1
  have nl : s.heap.NoLimit := env.mod.nolimit.keeps fun b o z => (env.bs b o z).1
  have long := ar _ _ _ _ prem
  obtain ⟨x, dx, fs, E2, ta, tr, hσ, hx, hp, ha, hr, q⟩ := bd A outer s H vs Q E (room.deeper _) prem
  have cells := cells_at T env
  have TT := T
  obtain ⟨nm, qual, params, body, scope, cl, c⟩ := F
  have hcl : cl = [(("__class__" : Str), cc)] := T.cl
  subst hcl
  refine ks_codeAny_call_defAt (binds := ps.zip us) room.depth (kin _ _ hf) rfl nl (PySem.W.codeRec_of kin T.code) rfl bind S.nocell (fun z hz => S.par z.1 (List.of_mem_zip hz).1) (fun h₁ hns k₁ => ?_) S.co S.gen S.kind
  have I : Inv (ncx CX P w K mg base N ⟨nm, qual, params, body, scope, [(("__class__" : Str), cc)], c⟩ f A outer s H E) [] (startF N vs [some (.ref D)]) H { s with heap := h₁, toks := s.toks + (ps.zip us).length } := inv_startN S room.hd env long rel cells hns k₁
  have hbd2 : body = .Assign [.Name y py] (.Call (.Attribute (.Call (.Name "super" p0) [] [] p1) m apos) (e :: es) [] pos) pst :: st := hbd
  subst hbd2
  generalize hF : (⟨nm, qual, params, .Assign [.Name y py] (.Call (.Attribute (.Call (.Name "super" p0) [] [] p1) m apos) (e :: es) [] pos) pst :: st, scope, [(("__class__" : Str), cc)], c⟩ : NF) = F at *
  have W : _root_.PySem.wpAt (model P w) (ncx CX P w K mg base N F f A outer s H E).A (.func F.body (envF F f s.heap.objs.size)) (execs F.body (envF F f s.heap.objs.size))
      (SP (ncx CX P w K mg base N F f A outer s H E) [] { nx := fun _ H' => Q .non H', rt := Q }) (ncx CX P w K mg base N F f A outer s H E).xe { s with heap := h₁, toks := s.toks + (ps.zip us).length } := by
    rw [hbd]
    apply ks_wpAt_execs_cons
    apply ks_wpAt_Assign_Name (hs := hsw _)
    apply PySem.ks_wpAt_mono (eval_super (σ := startF N vs [some (.ref D)]) TT hline (hform _) I hN hσ hx G (room.deeper _) hb2 hp ha (he _) (hpl _) q)
    · intro v s1 hv
      obtain ⟨u, H1, I1, ru, q1⟩ := hv
      apply store_ok I1 S.nd hi (.inl hy) ru (hf := .inr hy)
      intro s2 I2
      exact _root_.PySem.wpAt_of_wpAny (hr.run [] s2 _ H1 _ I2 q1)
    · exact fun _ _ z => z
  subst hF
  refine PySem.ks_wpAt_mono W (fun fl s' hs => ?_) fun _ _ z => z
  · cases fl with
    | ret u =>
      obtain ⟨v, σ2, H2, J, rv, qv⟩ := hs
      exact ⟨v, H2, J.os, J.bare, J.base, J.hok, rv, qv⟩
    | next =>
      obtain ⟨σ2, H2, J, qv⟩ := hs
      exact ⟨.non, H2, J.os, J.bare, J.base, J.hok, rfl, qv⟩
    | brk =>
      obtain ⟨_, _, _, qv⟩ := hs
      exact qv.elim
    | cont =>
      obtain ⟨_, _, _, qv⟩ := hs
      exact qv.elim
/-- super().m() as a value -/
theorem eval_super0 {CX2 : CXT} {k : Nat} {fd : FuncData} {ps : List Str} {sp : Sp} {E : XK} {body : List Stmt} {p0 p1 apos pos : Pos} {s : Shared} {pins : List (Addr × Obj)} {σ : L2.St} {H : Hp} {x dx : Addr} {fs : List (Str × V)} {Q : VK}
    (T : SupTxt P K C D f g cc F m) (hline : (apos.endLine == pos.line) = true)
    (hform : methodCallForm (([] : List Expr).length + ([] : List Keyword).length) (backTo pos (starEach [] (envF F f s0.heap.objs.size))) (backToKw pos (keywordEach [] (envF F f s0.heap.objs.size))) = true)
    (I : Inv (ncx CX P w K mg base N F f A outer s0 H0 E0) pins σ H s) (hN : N[0]? = some ("self" : Str)) (hσ : σ[0]? = some (some (.ref x))) (hx : H x = some (.ins C dx fs))
    (G : FnOk P w K mg base CX2 k g fd ps sp) (hr : Room k (ncx CX P w K mg base N F f A outer s0 H0 E0).A) (hb : Binds K fd ps []) (hp : Passes CX2 (ncx CX P w K mg base N F f A outer s0 H0 E0) E)
    (h : sp [.ref x] H Q E) :
    _root_.PySem.wpAt (model P w) (ncx CX P w K mg base N F f A outer s0 H0 E0).A (.func body (envF F f s0.heap.objs.size))
      (eval (.Call (.Attribute (.Call (.Name "super" p0) [] [] p1) m apos) [] [] pos) (envF F f s0.heap.objs.size)) (EP (ncx CX P w K mg base N F f A outer s0 H0 E0) pins σ Q) (ncx CX P w K mg base N F f A outer s0 H0 E0).xe s := by
  refine at_super T hline hform I hN hσ hx fun q s' J => ?_
  have hq := (J.pin (q, PySem.W.methodObj (.ref g) (.ref x)) (List.mem_append_right _ (List.mem_append_right _ List.mem_cons_self))).1
  apply PySem.W.callWith_of (P := PySem.W.MethP K q g (.ref x)) rfl (PySem.W.keeps_M T.fg)
  apply evalArgs_nil3
  refine ⟨⟨hq, J.kIn⟩, ?_⟩
  refine wpAny_mono (run_bound (us := []) (vs := []) (pins := pins ++ [(q, PySem.W.methodObj (.ref g) (.ref x))]) G hr hb hp J hq .nil h) (fun v s2 hv => ?_) fun _ _ z => z
  obtain ⟨y, H2, J2, ry, qy⟩ := hv
  exact ⟨y, H2, J2.pins_of fun p hp => J2.pin p (List.mem_append_right _ (List.mem_append_left _ hp)), ry, qy⟩
/-- a def super().m(); .. keeps its promise -/
theorem okS_do {CX2 : CXT} {k : Nat} {fd2 : FuncData} {ps ps2 : List Str} {sp sp2 : Sp} {p0 p1 apos pos pst : Pos} {st : List Stmt}
    {oc : Value} {od : Option Addr} {doc pm : Value} {an : Option Addr} {ct : Value} {osl : Array (Option Value)}
    (T : SupTxt P K C D f g cc F m) (hf : K.lookup f = some ⟨oc, od, .func (ksFn F.name F.qual F.params F.body F.scope .none .none doc pm an (.ref F.c) ct cc), osl⟩)
    (S : NScope N ps ["__class__"] F.scope)
    (hbd : F.body = .Expr (.Call (.Attribute (.Call (.Name "super" p0) [] [] p1) m apos) [] [] pos) pst :: st)
    (ar : ∀ vs H Q E, sp vs H Q E → vs.length = ps.length) (hN : N[0]? = some ("self" : Str))
    (G : FnOk P w K mg base CX2 k g fd2 ps2 sp2) (hb2 : Binds K fd2 ps2 [])
    (hline : (apos.endLine == pos.line) = true)
    (hform : ∀ L, methodCallForm (([] : List Expr).length + ([] : List Keyword).length) (backTo pos (starEach [] (envF F f L))) (backToKw pos (keywordEach [] (envF F f L))) = true)
    (hsw : ∀ L, swapsWith (.Call (.Attribute (.Call (.Name "super" p0) [] [] p1) m apos) [] [] pos) none pst.line (envF F f L) = pure false)
    (bd : ∀ (A : Around) (outer : List Env) (s : Shared) (H : Hp) (vs : List V) (Q : VK) (E : XK), Room k (A.deeper (envF F f s.heap.objs.size)) → sp vs H Q E →
      ∃ (x dx : Addr) (fs : List (Str × V)) (E2 : XK) (tr : TS), (startF N vs [some (.ref D)])[0]? = some (some (.ref x)) ∧ H x = some (.ins C dx fs) ∧ Passes CX2 (ncx CX P w K mg base N F f A outer s H E) E2 ∧
        PSs (ncx CX P w K mg base N F f A outer s H E) st tr ∧
        sp2 [.ref x] H (fun _ H2 => tr { nx := fun _ H' => Q .non H', rt := Q } (startF N vs [some (.ref D)]) H2) E2) :
    FnOk P w K mg base CX (k + 1) f (ksFn F.name F.qual F.params F.body F.scope .none .none doc pm an (.ref F.c) ct cc) ps sp := by
  refine ⟨ar, fun A outer s H args us vs Q E room env bind rel prem => ?_⟩
  have kin : K.In s.heap := env.mod.kin.keeps fun b o z => (env.bs b o z).1
  have nl : s.heap.NoLimit := env.mod.nolimit.keeps fun b o z => (env.bs b o z).1
  have long := ar _ _ _ _ prem
  obtain ⟨x, dx, fs, E2, tr, hσ, hx, hp, hr, q⟩ := bd A outer s H vs Q E (room.deeper _) prem
  have cells := cells_at T env
  have TT := T
  obtain ⟨nm, qual, params, body, scope, cl, c⟩ := F
  have hcl : cl = [(("__class__" : Str), cc)] := T.cl
  subst hcl
  refine ks_codeAny_call_defAt (binds := ps.zip us) room.depth (kin _ _ hf) rfl nl (PySem.W.codeRec_of kin T.code) rfl bind S.nocell (fun z hz => S.par z.1 (List.of_mem_zip hz).1) (fun h₁ hns k₁ => ?_) S.co S.gen S.kind
  have I : Inv (ncx CX P w K mg base N ⟨nm, qual, params, body, scope, [(("__class__" : Str), cc)], c⟩ f A outer s H E) [] (startF N vs [some (.ref D)]) H { s with heap := h₁, toks := s.toks + (ps.zip us).length } := inv_startN S room.hd env long rel cells hns k₁
  have hbd2 : body = .Expr (.Call (.Attribute (.Call (.Name "super" p0) [] [] p1) m apos) [] [] pos) pst :: st := hbd
  subst hbd2
  generalize hF : (⟨nm, qual, params, .Expr (.Call (.Attribute (.Call (.Name "super" p0) [] [] p1) m apos) [] [] pos) pst :: st, scope, [(("__class__" : Str), cc)], c⟩ : NF) = F at *
  have W : _root_.PySem.wpAt (model P w) (ncx CX P w K mg base N F f A outer s H E).A (.func F.body (envF F f s.heap.objs.size)) (execs F.body (envF F f s.heap.objs.size))
      (SP (ncx CX P w K mg base N F f A outer s H E) [] { nx := fun _ H' => Q .non H', rt := Q }) (ncx CX P w K mg base N F f A outer s H E).xe { s with heap := h₁, toks := s.toks + (ps.zip us).length } := by
    rw [hbd]
    apply ks_wpAt_execs_cons
    apply ks_wpAt_Expr_any (hi := I.quiet) (hs := hsw _)
    apply PySem.ks_wpAt_mono (eval_super0 (σ := startF N vs [some (.ref D)]) TT hline (hform _) I hN hσ hx G (room.deeper _) hb2 hp q)
    · intro v s1 hv
      obtain ⟨u, H1, I1, ru, q1⟩ := hv
      exact _root_.PySem.wpAt_of_wpAny (hr.run [] s1 _ H1 _ I1 q1)
    · exact fun _ _ z => z
  subst hF
  refine PySem.ks_wpAt_mono W (fun fl s' hs => ?_) fun _ _ z => z
  · cases fl with
    | ret u =>
      obtain ⟨v, σ2, H2, J, rv, qv⟩ := hs
      exact ⟨v, H2, J.os, J.bare, J.base, J.hok, rv, qv⟩
    | next =>
      obtain ⟨σ2, H2, J, qv⟩ := hs
      exact ⟨.non, H2, J.os, J.bare, J.base, J.hok, rfl, qv⟩
    | brk =>
      obtain ⟨_, _, _, qv⟩ := hs
      exact qv.elim
    | cont =>
      obtain ⟨_, _, _, qv⟩ := hs
      exact qv.elim
end
end Gs
/-! Methods that raise. -/
namespace Gx
open PySem PySem.Spec PyProof.Rows L2 Gd
theorem pe_or {X : Cx} {e : Expr} {t u : TE} (a : PE X e t) (b : PE X e u) : PE X e (fun σ H Q => t σ H Q ∨ u σ H Q) := ⟨fun pins s σ H Q I h => h.elim (a.run pins s σ H Q I) (b.run pins s σ H Q I)⟩
/-- a method that may raise -/
structure MetX (P : Program) (w : World) (K : PySem.W.Frag) (mg : Str → Option Value) (base : Heap) (k : Nat) (C : Addr) (m : Str) (sp : Sp) : Prop where
  ex : ∃ (f : Addr) (fd : FuncData) (ps : List Str), Cls K C ∧ Meth K C m f ∧ FnOk P w K mg base (L2.CX P w) k f fd ps sp ∧ Binds K fd ps []
def tMethX (C : Addr) (m : Str) (sp : Sp) (E : L2.St → XK) (ta : TE) (t : TA) : TE := fun σ H Q => ta σ H fun x H1 => ∃ a dx fs, x = .ref a ∧ H1 a = some (.ins C dx fs) ∧ fs.lookup m = none ∧ t σ H1 fun vs H2 => sp (x :: vs) H2 Q (E σ)
section
variable {X : Cx} {k j : Nat} {C : Addr} {m : Str} {sp : Sp} {pos apos : Pos} {e o : Expr} {es : List Expr} {ta : TE} {t : TA}
theorem pe_mtX {W : WX} {pl : Sem Bool} (c : MetX X.prog X.w X.K X.mg X.base k C m sp) (hr : Room j X.A) (hk : k ≤ j) (tk : Takes X W) (he : PE X o ta) (ha : PA X (e :: es) t)
    (hst : starEach (e :: es) X.env = (false, eval e X.env) :: starEach es X.env := by rfl) (hpl : (backTo pos (starEach es X.env)).any (·.1) = false := by rfl)
    (ht : eval (.Call (.Attribute o m apos) (e :: es) [] pos) X.env = (do
      let ov ← eval o X.env
      standAt apos.atName
      let (f, first) ← holding [ov] (getMethod ov m pl)
      callWith pos f first (backTo pos (starEach (e :: es) X.env)) (backToKw pos (keywordEach [] X.env))) := by rfl) :
    PE X (.Call (.Attribute o m apos) (e :: es) [] pos) (tMethX C m sp (WE W) ta t) := by
  obtain ⟨f, fd, ps, hc, hm, F, b⟩ := c.ex
  refine ⟨fun pins s σ H Q I h => ?_⟩
  refine PySem.W.methodCall_KW (pl := pl) (thn (he.run pins s σ H _ I h) fun u s1 ⟨x, H1, I1, rx, a, dx, fs, ex, ea, l, q⟩ => ?_) ht
  subst ex
  obtain rfl : u = Value.ref a := rx
  refine getmeth_ok I1 ea hc hm l ?_
  refine PySem.W.callWith_K (first := [.ref a]) (h₀ := X.base) I.ok.mod.kin hm.kp (thn (ha.run pos pins s1 σ H1 _ I1 q) fun us s2 ⟨vs, H2, I2, r, q2⟩ => ⟨I2.kIn, ?_⟩) hst hpl
  exact run_fnS (us := .ref a :: us) (vs := .ref a :: vs) F (hr.mono hk) b (passAt tk σ) I2 (.cons rfl r) q2
/-- where it raises nothing -/
theorem pe_mtN {pl : Sem Bool} (c : MetX X.prog X.w X.K X.mg X.base k C m sp) (hr : Room j X.A) (hk : k ≤ j) (he : PE X o ta) (ha : PA X (e :: es) t)
    (hst : starEach (e :: es) X.env = (false, eval e X.env) :: starEach es X.env := by rfl) (hpl : (backTo pos (starEach es X.env)).any (·.1) = false := by rfl)
    (ht : eval (.Call (.Attribute o m apos) (e :: es) [] pos) X.env = (do
      let ov ← eval o X.env
      standAt apos.atName
      let (f, first) ← holding [ov] (getMethod ov m pl)
      callWith pos f first (backTo pos (starEach (e :: es) X.env)) (backToKw pos (keywordEach [] X.env))) := by rfl) :
    PE X (.Call (.Attribute o m apos) (e :: es) [] pos) (tMeth C m sp [] E0 ta t) := by
  obtain ⟨f, fd, ps, hc, hm, F, b⟩ := c.ex
  exact pe_meth (pl := pl) he hc hm F (hr.mono hk) b .nil passL ha hst hpl ht
end
end Gx
set_option maxHeartbeats 1000000
namespace K15
open PySem PySem.Spec PyProof.Rows L2 Gd
open C8 (clsBody Met pe_mt pe_mt0)
def topS (i : Nat) : Stmt := PySem.Challenge.pw_makeskept_k15_orders_refused.main.body.getD i (.Pass ⟨0, 0, 0, 0⟩)
abbrev s__wall : Stmt := topS 0
abbrev s_is_whole : Stmt := topS 7
abbrev s__law_cell_at : Stmt := topS 13
abbrev s__law_box : Stmt := topS 14
abbrev s__law_take : Stmt := topS 15
abbrev s__law_call : Stmt := topS 16
abbrev s__law_told : Stmt := topS 17
abbrev s__law_seen : Stmt := topS 18
abbrev s__law_odd : Stmt := topS 19
abbrev s__law_right : Stmt := topS 20
abbrev s__law_full_right : Stmt := topS 21
abbrev s_law : Stmt := topS 22
abbrev s_NoMark___init__ : Stmt := (clsBody (topS 3)).getD 0 (.Pass ⟨0, 0, 0, 0⟩)
abbrev s_TooMany___init__ : Stmt := (clsBody (topS 4)).getD 0 (.Pass ⟨0, 0, 0, 0⟩)
abbrev s_Alone___init__ : Stmt := (clsBody (topS 5)).getD 0 (.Pass ⟨0, 0, 0, 0⟩)
abbrev s_Order___init__ : Stmt := (clsBody (topS 11)).getD 0 (.Pass ⟨0, 0, 0, 0⟩)
abbrev s_Order_behind : Stmt := (clsBody (topS 11)).getD 1 (.Pass ⟨0, 0, 0, 0⟩)
abbrev s_Order_drop : Stmt := (clsBody (topS 11)).getD 2 (.Pass ⟨0, 0, 0, 0⟩)
abbrev s_Order_many : Stmt := (clsBody (topS 11)).getD 3 (.Pass ⟨0, 0, 0, 0⟩)
abbrev s_Order_marks : Stmt := (clsBody (topS 11)).getD 4 (.Pass ⟨0, 0, 0, 0⟩)
abbrev s_Order_ahead : Stmt := (clsBody (topS 11)).getD 5 (.Pass ⟨0, 0, 0, 0⟩)
abbrev s_Order_label : Stmt := (clsBody (topS 11)).getD 6 (.Pass ⟨0, 0, 0, 0⟩)
abbrev s_Order_anew : Stmt := (clsBody (topS 11)).getD 7 (.Pass ⟨0, 0, 0, 0⟩)
abbrev s_Order_copied : Stmt := (clsBody (topS 11)).getD 8 (.Pass ⟨0, 0, 0, 0⟩)
abbrev s_Order__label_at : Stmt := (clsBody (topS 11)).getD 9 (.Pass ⟨0, 0, 0, 0⟩)
abbrev s_Order__label_anew : Stmt := (clsBody (topS 11)).getD 10 (.Pass ⟨0, 0, 0, 0⟩)
abbrev s_Order__need_mark : Stmt := (clsBody (topS 11)).getD 11 (.Pass ⟨0, 0, 0, 0⟩)
theorem sc_Order___init__ : FnScope ["self"] ["self"] (defScope s_Order___init__) := ⟨rfl, rfl, rfl, by decide +kernel, rfl, by decide +kernel, by decide +kernel⟩
theorem sc_Order_behind : FnScope ["self", "mark", "at", "number"] ["self", "mark"] (defScope s_Order_behind) := ⟨rfl, rfl, rfl, by decide +kernel, rfl, by decide +kernel, by decide +kernel⟩
theorem sc_Order_drop : FnScope ["self", "mark"] ["self", "mark"] (defScope s_Order_drop) := ⟨rfl, rfl, rfl, by decide +kernel, rfl, by decide +kernel, by decide +kernel⟩
theorem sc_Order_many : FnScope ["self"] ["self"] (defScope s_Order_many) := ⟨rfl, rfl, rfl, by decide +kernel, rfl, by decide +kernel, by decide +kernel⟩
theorem sc_Order_marks : FnScope ["self"] ["self"] (defScope s_Order_marks) := ⟨rfl, rfl, rfl, by decide +kernel, rfl, by decide +kernel, by decide +kernel⟩
theorem sc_Order_ahead : FnScope ["self", "one", "other"] ["self", "one", "other"] (defScope s_Order_ahead) := ⟨rfl, rfl, rfl, by decide +kernel, rfl, by decide +kernel, by decide +kernel⟩
theorem sc_Order_label : FnScope ["self", "mark"] ["self", "mark"] (defScope s_Order_label) := ⟨rfl, rfl, rfl, by decide +kernel, rfl, by decide +kernel, by decide +kernel⟩
theorem sc_Order_anew : FnScope ["self"] ["self"] (defScope s_Order_anew) := ⟨rfl, rfl, rfl, by decide +kernel, rfl, by decide +kernel, by decide +kernel⟩
theorem sc_Order_copied : FnScope ["self"] ["self"] (defScope s_Order_copied) := ⟨rfl, rfl, rfl, by decide +kernel, rfl, by decide +kernel, by decide +kernel⟩
theorem sc_Order__label_at : FnScope ["self", "at"] ["self", "at"] (defScope s_Order__label_at) := ⟨rfl, rfl, rfl, by decide +kernel, rfl, by decide +kernel, by decide +kernel⟩
theorem sc_Order__label_anew : FnScope ["self", "step", "at", "mark"] ["self"] (defScope s_Order__label_anew) := ⟨rfl, rfl, rfl, by decide +kernel, rfl, by decide +kernel, by decide +kernel⟩
theorem sc_Order__need_mark : FnScope ["self", "mark"] ["self", "mark"] (defScope s_Order__need_mark) := ⟨rfl, rfl, rfl, by decide +kernel, rfl, by decide +kernel, by decide +kernel⟩
theorem sc__wall : FnScope ["k"] ["k"] (defScope s__wall) := ⟨rfl, rfl, rfl, by decide +kernel, rfl, by decide +kernel, by decide +kernel⟩
theorem sc_is_whole : FnScope ["thing", "low", "high"] ["thing", "low", "high"] (defScope s_is_whole) := ⟨rfl, rfl, rfl, by decide +kernel, rfl, by decide +kernel, by decide +kernel⟩
theorem sc__law_cell_at : FnScope ["_law_script", "_law_k"] ["_law_script", "_law_k"] (defScope s__law_cell_at) := ⟨rfl, rfl, rfl, by decide +kernel, rfl, by decide +kernel, by decide +kernel⟩
theorem sc__law_box : FnScope ["_law_cell"] ["_law_cell"] (defScope s__law_box) := ⟨rfl, rfl, rfl, by decide +kernel, rfl, by decide +kernel, by decide +kernel⟩
theorem sc__law_take : FnScope ["_law_box_here", "_law_many", "_law_digit", "_law_number"] ["_law_box_here", "_law_many"] (defScope s__law_take) := ⟨rfl, rfl, rfl, by decide +kernel, rfl, by decide +kernel, by decide +kernel⟩
theorem sc__law_call : FnScope ["_law_order", "_law_way", "_law_one", "_law_other"] ["_law_order", "_law_way", "_law_one", "_law_other"] (defScope s__law_call) := ⟨rfl, rfl, rfl, by decide +kernel, rfl, by decide +kernel, by decide +kernel⟩
theorem sc__law_told : FnScope ["_law_order", "_law_way", "_law_one", "_law_other", "_law_found", "e"] ["_law_order", "_law_way", "_law_one", "_law_other"] (defScope s__law_told) := ⟨rfl, rfl, rfl, by decide +kernel, rfl, by decide +kernel, by decide +kernel⟩
theorem sc__law_seen : FnScope ["_law_order", "_law_mark"] ["_law_order"] (defScope s__law_seen) := ⟨rfl, rfl, rfl, by decide +kernel, rfl, by decide +kernel, by decide +kernel⟩
theorem sc__law_odd : FnScope ["_law_box_here", "_law_order", "_law_row", "_law_gone", "_law_given", "_law_some"] ["_law_box_here", "_law_order", "_law_row", "_law_gone", "_law_given"] (defScope s__law_odd) := ⟨rfl, rfl, rfl, by decide +kernel, rfl, by decide +kernel, by decide +kernel⟩
theorem sc__law_right : FnScope ["_law_box_here", "_law_order", "_law_row", "_law_gone", "_law_given", "_law_way", "_law_both", "_law_one", "_law_other", "_law_good", "_law_seen_here", "_law_due", "_law_things", "_law_found"] ["_law_box_here", "_law_order", "_law_row", "_law_gone", "_law_given"] (defScope s__law_right) := ⟨rfl, rfl, rfl, by decide +kernel, rfl, by decide +kernel, by decide +kernel⟩
theorem sc__law_full_right : FnScope ["_law_box_here", "_law_order", "_law_spread", "_law_k", "_law_seen_here", "_law_mark"] ["_law_box_here"] (defScope s__law_full_right) := ⟨rfl, rfl, rfl, by decide +kernel, rfl, by decide +kernel, by decide +kernel⟩
theorem sc_law : FnScope ["_law_script", "_law_order", "_law_row", "_law_gone", "_law_given", "_law_k", "_law_box_here", "_law_drops", "_law_at"] ["_law_script"] (defScope s_law) := ⟨rfl, rfl, rfl, by decide +kernel, rfl, by decide +kernel, by decide +kernel⟩
structure Txt (K : PySem.W.Frag) (mg : Str → Option Value) : Prop where
  b_len : mg "len" = none
  b_max : mg "max" = none
  b_min : mg "min" = none
  b_range : mg "range" = none
  b_repr : mg "repr" = none
  b_isinstance : mg "isinstance" = none
  b_enumerate : mg "enumerate" = none
  t_int : mg "int" = none
  t_bool : mg "bool" = none
  t_list : mg "list" = none
  t_dict : mg "dict" = none
  g_MOST_MARKS : GInt mg "MOST_MARKS" 200
  g_LABELS : GInt mg "LABELS" 1024
/-- the class of orders -/
structure OrdC (K : PySem.W.Frag) (C : Addr) : Prop where
  cl : Cls K C
  n_marks : NoAttr K C "_marks"
  n_labels : NoAttr K C "_labels"
  n_given : NoAttr K C "_given"
  n_times : NoAttr K C "_times"
def fields : List Str := ["_marks", "_labels", "_given", "_times"]
def num (j : Nat) : V := .int (j : Nat)
theorem putF_len {f : Str} {v x : V} : ∀ {fs : List (Str × V)}, fs.lookup f = some x → (putF f v fs).length = fs.length
  | [], h => by cases h
  | (g, y) :: r, h => by
    unfold putF
    by_cases e : g = f
    · rw [if_pos e]
      rfl
    · rw [if_neg e]
      have e2 : (f == g) = false := by simpa using fun z => e z.symm
      rw [List.lookup_cons, e2] at h
      rw [List.length_cons, List.length_cons, putF_len h]
/-! lists of marks and their labels -/
def inl {α : Type} (l : List α) (k : Nat) (x : α) : List α := l.take k ++ [x] ++ l.drop k
theorem inl_at {α : Type} {l : List α} {k : Nat} {x : α} (hk : k ≤ l.length) (j : Nat) : (inl l k x)[j]? = if j < k then l[j]? else if j = k then some x else l[j - 1]? := by
  unfold inl
  have h1 : (l.take k).length = k := by rw [List.length_take]; omega
  by_cases e : j < k
  · rw [if_pos e, List.append_assoc, List.getElem?_append_left (by omega), List.getElem?_take, if_pos e]
  · rw [if_neg e]
    by_cases e2 : j = k
    · rw [if_pos e2, List.append_assoc, List.getElem?_append_right (by omega), h1, e2, Nat.sub_self]
      rfl
    · rw [if_neg e2, List.getElem?_append_right (by rw [List.length_append, h1]; show k + 1 ≤ j; omega), List.length_append, h1, List.getElem?_drop]
      congr 1
      show k + (j - (k + 1)) = j - 1
      omega
theorem inl_len {α : Type} {l : List α} {k : Nat} {x : α} (hk : k ≤ l.length) : (inl l k x).length = l.length + 1 := by
  unfold inl
  rw [List.length_append, List.length_append, List.length_take, List.length_drop]
  show min k l.length + 1 + _ = _
  omega
theorem inl_map {α β : Type} (f : α → β) (l : List α) (k : Nat) (x : α) : (inl l k x).map f = inl (l.map f) k (f x) := by
  unfold inl
  rw [List.map_append, List.map_append, List.map_take, List.map_drop]
  rfl
def labAt (ls : List Nat) (i : Nat) : Nat := ls.getD i 1024
theorem labAt_in {ls : List Nat} {i l : Nat} (h : ls[i]? = some l) : labAt ls i = l := by
  unfold labAt
  rw [List.getD_eq_getElem?_getD, h]
  rfl
theorem labAt_end {ls : List Nat} {i : Nat} (h : ls.length ≤ i) : labAt ls i = 1024 := by
  unfold labAt
  rw [List.getD_eq_getElem?_getD, List.getElem?_eq_none h]
  rfl
def anewL (n : Nat) : List Nat := (List.range n).map fun k => k * (1024 / n)
theorem anew_len (n : Nat) : (anewL n).length = n := by
  unfold anewL
  rw [List.length_map, List.length_range]
theorem anew_at {n i : Nat} (h : i < n) : (anewL n)[i]? = some (i * (1024 / n)) := by
  unfold anewL
  rw [List.getElem?_map, List.getElem?_range h]
  rfl
/-- an order as it must be -/
structure Ok (ms ls : List Nat) (gv : Nat) : Prop where
  len : ls.length = ms.length
  pos : 0 < ms.length
  few : ms.length ≤ 200
  nd : ∀ (i j m : Nat), ms[i]? = some m → ms[j]? = some m → i = j
  lt : ∀ (i m : Nat), ms[i]? = some m → m < gv
  inc : ∀ (i j a b : Nat), i < j → ls[i]? = some a → ls[j]? = some b → a < b
  top : ∀ (i a : Nat), ls[i]? = some a → a < 1024
def gap (ls : List Nat) (i : Nat) : Prop := labAt ls i + 2 ≤ labAt ls (i + 1)
instance (ls : List Nat) (i : Nat) : Decidable (gap ls i) := inferInstanceAs (Decidable (_ ≤ _))
/-- the labels that a mark finds that is put behind the i-th -/
def readyL (ls : List Nat) (i : Nat) : List Nat := if gap ls i then ls else anewL ls.length
theorem ready_len (ls : List Nat) (i : Nat) : (readyL ls i).length = ls.length := by
  unfold readyL
  split
  · rfl
  · exact anew_len _
def midL (ls : List Nat) (i : Nat) : Nat := (labAt (readyL ls i) i + labAt (readyL ls i) (i + 1)) / 2
theorem step_pos {n : Nat} (h : n ≤ 200) (h0 : 0 < n) : 5 ≤ 1024 / n := by
  rw [Nat.le_div_iff_mul_le h0]
  omega
theorem Ok.anew {ms ls : List Nat} {gv : Nat} (o : Ok ms ls gv) : Ok ms (anewL ms.length) gv := by
  have hs := step_pos o.few o.pos
  have ht : ms.length * (1024 / ms.length) ≤ 1024 := Nat.mul_div_le 1024 ms.length
  refine ⟨anew_len _, o.pos, o.few, o.nd, o.lt, fun i j a b hij ha hb => ?_, fun i a ha => ?_⟩
  · have hj : j < ms.length := by
      by_cases z : j < ms.length
      · exact z
      · rw [List.getElem?_eq_none (by rw [anew_len]; omega)] at hb
        cases hb
    rw [anew_at (by omega)] at ha
    rw [anew_at hj] at hb
    have ea := Option.some.inj ha
    have eb := Option.some.inj hb
    rw [← ea, ← eb]
    exact Nat.mul_lt_mul_of_pos_right hij (by omega)
  · have hi : i < ms.length := by
      by_cases z : i < ms.length
      · exact z
      · rw [List.getElem?_eq_none (by rw [anew_len]; omega)] at ha
        cases ha
    rw [anew_at hi] at ha
    have ea := Option.some.inj ha
    rw [← ea]
    refine Nat.lt_of_lt_of_le (Nat.mul_lt_mul_of_pos_right hi (by omega)) ht
theorem Ok.gap_ready {ms ls : List Nat} {gv i : Nat} (o : Ok ms ls gv) (hi : i < ms.length) : gap (readyL ls i) i := by
  unfold readyL
  split
  · assumption
  · unfold gap
    have hs := step_pos o.few o.pos
    rw [o.len]
    by_cases e : i + 1 < ms.length
    · rw [labAt_in (anew_at hi), labAt_in (anew_at e), Nat.succ_mul]
      omega
    · have e2 : i + 1 = ms.length := by omega
      rw [labAt_in (anew_at hi), labAt_end (by rw [anew_len]; omega)]
      have ht : ms.length * (1024 / ms.length) ≤ 1024 := Nat.mul_div_le 1024 ms.length
      rw [← e2, Nat.succ_mul] at ht
      rw [← e2]
      rw [← e2] at hs
      omega
theorem Ok.ready {ms ls : List Nat} {gv i : Nat} (o : Ok ms ls gv) : Ok ms (readyL ls i) gv := by
  unfold readyL
  split
  · exact o
  · rw [o.len]
    exact o.anew
theorem Ok.put {ms ls : List Nat} {gv i : Nat} (o : Ok ms ls gv) (hi : i < ms.length) (few : ms.length < 200) : Ok (inl ms (i + 1) gv) (inl (readyL ls i) (i + 1) (midL ls i)) (gv + 1) := by
  have r := o.ready (i := i)
  have g := o.gap_ready hi
  have hl : (readyL ls i).length = ms.length := r.len
  unfold gap at g
  have hm : labAt (readyL ls i) i < midL ls i ∧ midL ls i < labAt (readyL ls i) (i + 1) := by
    unfold midL
    omega
  have hlo : ∀ (j a : Nat), j < i + 1 → (readyL ls i)[j]? = some a → a < midL ls i := fun j a hj ha => by
    by_cases e : j = i
    · rw [e] at ha
      rw [labAt_in ha] at hm
      exact hm.1
    · obtain ⟨b, hb⟩ : ∃ b, (readyL ls i)[i]? = some b := ⟨_, List.getElem?_eq_getElem (by omega)⟩
      have := r.inc j i a b (by omega) ha hb
      rw [labAt_in hb] at hm
      omega
  have hhi : ∀ (j a : Nat), i + 1 ≤ j → (readyL ls i)[j]? = some a → midL ls i < a := fun j a hj ha => by
    by_cases e : j = i + 1
    · rw [e] at ha
      rw [labAt_in ha] at hm
      exact hm.2
    · obtain ⟨b, hb⟩ : ∃ b, (readyL ls i)[i + 1]? = some b := ⟨_, List.getElem?_eq_getElem (by
        by_cases z : j < (readyL ls i).length
        · omega
        · rw [List.getElem?_eq_none (by omega)] at ha
          cases ha)⟩
      have := r.inc (i + 1) j b a (by omega) hb ha
      rw [labAt_in hb] at hm
      omega
  refine ⟨by rw [inl_len (by omega), inl_len (by omega), hl], by rw [inl_len (by omega)]; omega, by rw [inl_len (by omega)]; omega, fun j k m h1 h2 => ?_, fun j m h => ?_, fun j k a b hjk ha hb => ?_, fun j a ha => ?_⟩
  · rw [inl_at (by omega)] at h1 h2
    by_cases e1 : j < i + 1
    · rw [if_pos e1] at h1
      have l1 := o.lt _ _ h1
      by_cases e2 : k < i + 1
      · rw [if_pos e2] at h2
        exact o.nd _ _ _ h1 h2
      · rw [if_neg e2] at h2
        by_cases e3 : k = i + 1
        · rw [if_pos e3] at h2
          have := Option.some.inj h2
          omega
        · rw [if_neg e3] at h2
          have := o.nd _ _ _ h1 h2
          omega
    · rw [if_neg e1] at h1
      by_cases e4 : j = i + 1
      · rw [if_pos e4] at h1
        have e5 := Option.some.inj h1
        by_cases e2 : k < i + 1
        · rw [if_pos e2] at h2
          have := o.lt _ _ h2
          omega
        · rw [if_neg e2] at h2
          by_cases e3 : k = i + 1
          · omega
          · rw [if_neg e3] at h2
            have := o.lt _ _ h2
            omega
      · rw [if_neg e4] at h1
        have l1 := o.lt _ _ h1
        by_cases e2 : k < i + 1
        · rw [if_pos e2] at h2
          have := o.nd _ _ _ h1 h2
          omega
        · rw [if_neg e2] at h2
          by_cases e3 : k = i + 1
          · rw [if_pos e3] at h2
            have := Option.some.inj h2
            omega
          · rw [if_neg e3] at h2
            have := o.nd _ _ _ h1 h2
            omega
  · rw [inl_at (by omega)] at h
    split at h
    · have := o.lt _ _ h
      omega
    · split at h
      · have := Option.some.inj h
        omega
      · have := o.lt _ _ h
        omega
  · rw [inl_at (by omega)] at ha hb
    by_cases e1 : j < i + 1
    · rw [if_pos e1] at ha
      by_cases e2 : k < i + 1
      · rw [if_pos e2] at hb
        exact r.inc _ _ _ _ hjk ha hb
      · rw [if_neg e2] at hb
        by_cases e3 : k = i + 1
        · rw [if_pos e3] at hb
          have := Option.some.inj hb
          have := hlo _ _ e1 ha
          omega
        · rw [if_neg e3] at hb
          exact r.inc _ _ _ _ (by omega) ha hb
    · rw [if_neg e1] at ha
      rw [if_neg (by omega), if_neg (by omega)] at hb
      by_cases e4 : j = i + 1
      · rw [if_pos e4] at ha
        have := Option.some.inj ha
        have := hhi _ _ (by omega) hb
        omega
      · rw [if_neg e4] at ha
        exact r.inc _ _ _ _ (by omega) ha hb
  · rw [inl_at (by omega)] at ha
    have ht : midL ls i < 1024 := by
      by_cases z : i + 1 < (readyL ls i).length
      · have := r.top (i + 1) _ (List.getElem?_eq_getElem z)
        have e2 := labAt_in (List.getElem?_eq_getElem z)
        omega
      · rw [labAt_end (by omega : (readyL ls i).length ≤ i + 1)] at hm
        exact hm.2
    split at ha
    · exact r.top _ _ ha
    · split at ha
      · have := Option.some.inj ha
        omega
      · exact r.top _ _ ha
theorem er_at {α : Type} (l : List α) (k j : Nat) : (l.eraseIdx k)[j]? = if j < k then l[j]? else l[j + 1]? := by
  rw [List.getElem?_eraseIdx]
theorem er_len {α : Type} {l : List α} {k : Nat} (h : k < l.length) : (l.eraseIdx k).length = l.length - 1 := List.length_eraseIdx_of_lt h
theorem Ok.drop {ms ls : List Nat} {gv i : Nat} (o : Ok ms ls gv) (hi : i < ms.length) (h2 : 1 < ms.length) : Ok (ms.eraseIdx i) (ls.eraseIdx i) gv := by
  have hl := o.len
  refine ⟨by rw [er_len hi, er_len (by omega), hl], by rw [er_len hi]; omega, by rw [er_len hi]; have := o.few; omega, fun j k m h1 h2 => ?_, fun j m h => ?_, fun j k a b hjk ha hb => ?_, fun j a ha => ?_⟩
  · rw [er_at] at h1 h2
    split at h1
    · split at h2
      · exact o.nd _ _ _ h1 h2
      · have := o.nd _ _ _ h1 h2
        omega
    · split at h2
      · have := o.nd _ _ _ h1 h2
        omega
      · have := o.nd _ _ _ h1 h2
        omega
  · rw [er_at] at h
    split at h
    · exact o.lt _ _ h
    · exact o.lt _ _ h
  · rw [er_at] at ha hb
    split at ha
    · split at hb
      · exact o.inc _ _ _ _ hjk ha hb
      · exact o.inc _ _ _ _ (by omega) ha hb
    · rw [if_neg (by omega)] at hb
      exact o.inc _ _ _ _ (by omega) ha hb
  · rw [er_at] at ha
    split at ha
    · exact o.top _ _ ha
    · exact o.top _ _ ha
end K15
set_option maxHeartbeats 1000000
namespace K15
open PySem PySem.Spec PyProof.Rows L2 Gd
open C8 (clsBody Met pe_mt pe_mt0)
/-- the dict of labels -/
structure DictL (kvs : List (Key × V)) (ms ls : List Nat) (gv : Nat) : Prop where
  len : kvs.length ≤ gv
  few : gv ≤ 1000
  at_ : ∀ (i m l : Nat), ms[i]? = some m → ls[i]? = some l → valV kvs (Sum.inl (m : Int)) = some (num l)
  no : ∀ k : Nat, (∀ i : Nat, ms[i]? ≠ some k) → valV kvs (Sum.inl (k : Int)) = none
/-- an order at o, N all that is its own -/
structure OrdA (N : Addr → Prop) (H : Hp) (o C : Addr) (ms ls : List Nat) (gv ts : Nat) : Prop where
  ex : ∃ (dx m d : Addr) (fs : List (Str × V)) (kvs : List (Key × V)), H o = some (.ins C dx fs) ∧ fs.lookup ("_marks" : Str) = some (.ref m) ∧ fs.lookup ("_labels" : Str) = some (.ref d) ∧ fs.lookup ("_given" : Str) = some (num gv) ∧ fs.lookup ("_times" : Str) = some (num ts) ∧
    (∀ f, f ∉ fields → fs.lookup f = none) ∧ H m = some (.lst (ms.map num)) ∧ H d = some (.dK kvs) ∧ DictL kvs ms ls gv ∧ fs.length ≤ 100 ∧ N o ∧ N m ∧ N d
  ok : Ok ms ls gv
theorem OrdA.kp {N : Addr → Prop} {H H' : Hp} {o C : Addr} {ms ls : List Nat} {gv ts : Nat} (r : OrdA N H o C ms ls gv ts) (k : ∀ c u, N c → H c = some u → H' c = some u) : OrdA N H' o C ms ls gv ts := by
  obtain ⟨dx, m, d, fs, kvs, e1, l1, l2, l3, l4, nl, e2, e3, dc, lf, No, Nm, Nd⟩ := r.ex
  exact ⟨⟨dx, m, d, fs, kvs, k _ _ No e1, l1, l2, l3, l4, nl, k _ _ Nm e2, k _ _ Nd e3, dc, lf, No, Nm, Nd⟩, r.ok⟩
theorem OrdA.mono {N N' : Addr → Prop} {H : Hp} {o C : Addr} {ms ls : List Nat} {gv ts : Nat} (r : OrdA N H o C ms ls gv ts) (k : ∀ c, N c → N' c) : OrdA N' H o C ms ls gv ts := by
  obtain ⟨dx, m, d, fs, kvs, e1, l1, l2, l3, l4, nl, e2, e3, dc, lf, No, Nm, Nd⟩ := r.ex
  exact ⟨⟨dx, m, d, fs, kvs, e1, l1, l2, l3, l4, nl, e2, e3, dc, lf, k _ No, k _ Nm, k _ Nd⟩, r.ok⟩
theorem OrdA.cut {N : Addr → Prop} {H : Hp} {o C : Addr} {ms ls : List Nat} {gv ts : Nat} (r : OrdA N H o C ms ls gv ts) : OrdA (fun c => N c ∧ H c ≠ none) H o C ms ls gv ts := by
  obtain ⟨dx, m, d, fs, kvs, e1, l1, l2, l3, l4, nl, e2, e3, dc, lf, No, Nm, Nd⟩ := r.ex
  exact ⟨⟨dx, m, d, fs, kvs, e1, l1, l2, l3, l4, nl, e2, e3, dc, lf, ⟨No, fun z => by rw [e1] at z; cases z⟩, ⟨Nm, fun z => by rw [e2] at z; cases z⟩, ⟨Nd, fun z => by rw [e3] at z; cases z⟩⟩, r.ok⟩
theorem OrdA.ins {N : Addr → Prop} {H : Hp} {o C : Addr} {ms ls : List Nat} {gv ts : Nat} (r : OrdA N H o C ms ls gv ts) : ∃ dx fs, H o = some (.ins C dx fs) ∧ (∀ f, f ∉ fields → fs.lookup f = none) := by
  obtain ⟨dx, m, d, fs, kvs, e1, l1, l2, l3, l4, nl, e2, e3, dc, lf, No, Nm, Nd⟩ := r.ex
  exact ⟨dx, fs, e1, nl⟩
section
variable {P : Program} {w : World} {K : PySem.W.Frag} {mg : Str → Option Value} {base : Heap} {C : Addr}
structure MAt (K : PySem.W.Frag) (C : Addr) (m qual : Str) (st : Stmt) (ps : List Str) : Prop where
  ex : ∃ (f : Addr) (fd : FuncData), Fun K m qual st f fd ∧ Meth K C m f ∧ Binds K fd ps []
theorem MAt.met {m qual : Str} {st : Stmt} {N ps : List Str} {k : Nat} {sp : Sp} (M : MAt K C m qual st ps) (cl : Cls K C) (S : FnScope N ps (defScope st))
    (ar : ∀ vs H Q E, sp vs H Q E → vs.length = ps.length)
    (bd : ∀ (f : Addr) (cdv : Value) (A : Around) (outer : List Env) (s : Shared) (H : Hp) (vs : List V) (Q : VK) (E : XK), Room k (A.deeper (envOfC qual (defScope st) s.heap.objs.size f cdv)) → sp vs H Q E →
      ∃ t, PSs (cxOf CX0 P w K mg base N qual (defScope st) f cdv A outer s H E).nox (defBody st) t ∧ t { nx := fun _ H' => Q .non H', rt := Q } (start N vs) H) : Met P w K mg base (k + 1) C m sp [] := by
  obtain ⟨f, fd, F, me, b⟩ := M.ex
  exact ⟨f, fd, ps, [], cl, me, F.ok S ar (bd f), b, .nil⟩
def spWhI : Sp := fun vs H Q _ => ∃ n lo hi : Int, vs = [.int n, .int lo, .int hi] ∧ lo ≤ n ∧ n ≤ hi ∧ Q (.bl true) H
theorem ok_whI (T : Txt K mg) (D : DefAt K mg "is_whole" s_is_whole ["thing", "low", "high"]) : C8.Cal P w K mg base 1 "is_whole" spWhI [] := by
  obtain ⟨f, fd, F, m, b⟩ := D.ex
  refine ⟨f, fd, _, [], F.ok sc_is_whole (fun vs H Q E h => ?_) (fun cdv A outer s H vs Q E hr h => ?_), m, F.kp, b, .nil⟩
  · obtain ⟨n, lo, hi, rfl, _⟩ := h
    rfl
  · obtain ⟨n, lo, hi, rfl, h1, h2, q⟩ := h
    refine ⟨_, (pss_one (ps_ret (pe_and (pe_callB call_isi (by rfl) T.b_isinstance boot_isinstance_ (pa_cons (pv 0) (pa_cons (pe_bltn (v := .ty "int") (by rfl) T.t_int boot_int_ rfl) pa_nil))) (pe_and (pe_not (pe_callB call_isi (by rfl) T.b_isinstance boot_isinstance_ (pa_cons (pv 0) (pa_cons (pe_bltn (v := .ty "bool") (by rfl) T.t_bool boot_bool_ rfl) pa_nil)))) (pe_one (pe_chain op_le op_le (pv 1) (pv 0) (pv 2))))))), ?_⟩
    have ty := tyD (K := K) (H := H) (D1.dp (Dp.int n))
    refine ⟨_, rfl, .int n, .ty "int", _, .type "int", _, rfl, .ty _, ty, kInt (.int n), _, rfl, ?_⟩
    refine iteT ?_
    refine ⟨_, rfl, _, .ty "bool", _, .type "bool", _, rfl, .ty _, ty, kBool _, _, rfl, _, rfl, ?_⟩
    refine iteT ?_
    refine ⟨_, rfl, _, rfl, _, _, rfl, rfl, _, rfl, ?_⟩
    rw [decide_eq_true h1]
    refine iteT ⟨_, rfl, _, _, rfl, rfl, ?_⟩
    show Q (.bl (decide (n ≤ hi))) H
    rw [decide_eq_true h2]
    exact q
def spMany (C : Addr) : Sp := fun vs H Q _ => ∃ (N : Addr → Prop) (o : Addr) (ms ls : List Nat) (gv ts : Nat), vs = [.ref o] ∧ OrdA N H o C ms ls gv ts ∧ Q (num ms.length) H
theorem ok_many (T : Txt K mg) (OC : OrdC K C) (M : MAt K C "many" "Order.many" s_Order_many ["self"]) : Met P w K mg base 1 C "many" (spMany C) [] := by
  refine M.met OC.cl sc_Order_many (fun vs H Q E h => ?_) (fun f cdv A outer s H vs Q E hr h => ?_)
  · obtain ⟨N, o, ms, ls, gv, ts, rfl, _⟩ := h
    rfl
  · obtain ⟨N, o, ms, ls, gv, ts, rfl, r, q⟩ := h
    obtain ⟨dx, m, d, fs, kvs, e1, l1, l2, l3, l4, nl, e2, e3, dc, lf, No, Nm, Nd⟩ := r.ex
    refine ⟨_, (pss_one (ps_ret (pe_callB call_len (by rfl) T.b_len boot_len_ (pa_cons (pe_fld (pv 0) rfl) pa_nil)))), ?_⟩
    refine ⟨_, rfl, o, C, dx, fs, .ref m, rfl, e1, OC.cl, OC.n_marks, l1, .ref m, (ms.map num).length, rfl, .inl ⟨_, SqL.of e2, rfl⟩, ?_⟩
    rw [List.length_map]
    exact q
def spNeed (C : Addr) : Sp := fun vs H Q _ => ∃ (N : Addr → Prop) (o : Addr) (ms ls : List Nat) (gv ts i k : Nat), vs = [.ref o, num k] ∧ OrdA N H o C ms ls gv ts ∧ ms[i]? = some k ∧ Q .non H
theorem lab_of {ms ls : List Nat} {gv i k : Nat} (o : Ok ms ls gv) (h : ms[i]? = some k) : ∃ l, ls[i]? = some l := by
  have hi : i < ms.length := by
    by_cases z : i < ms.length
    · exact z
    · rw [List.getElem?_eq_none (by omega)] at h
      cases h
  exact ⟨_, List.getElem?_eq_getElem (by rw [o.len]; exact hi)⟩
theorem ok_need (T : Txt K mg) (OC : OrdC K C) (c_is_whole : C8.Cal P w K mg base 1 "is_whole" spWhI []) (M : MAt K C "_need_mark" "Order._need_mark" s_Order__need_mark ["self", "mark"]) : Met P w K mg base 2 C "_need_mark" (spNeed C) [] := by
  refine M.met OC.cl sc_Order__need_mark (fun vs H Q E h => ?_) (fun f cdv A outer s H vs Q E hr h => ?_)
  · obtain ⟨N, o, ms, ls, gv, ts, i, k, rfl, _⟩ := h
    rfl
  · obtain ⟨N, o, ms, ls, gv, ts, i, k, rfl, r, hk, q⟩ := h
    obtain ⟨dx, m, d, fs, kvs, e1, l1, l2, l3, l4, nl, e2, e3, dc, lf, No, Nm, Nd⟩ := r.ex
    obtain ⟨l, hl⟩ := lab_of r.ok hk
    have hkg := r.ok.lt _ _ hk
    refine ⟨_, (pss_one (ps_if (PW.pt (pw_or (pt_not (pt_val (C8.pe_c c_is_whole hr (by decide) (by rfl) (pa_cons (pv 1) (pa_cons pe_int (pa_cons (pe_op op_sub (pe_fld (pv 0) rfl) pe_int) pa_nil)))))) (pw_or1 (pt_cmp (pc_dnotin (hu_of hr) (pv 1) (pe_fld (pv 0) rfl))))))
          (pss_one ps_never) pss_nil)), ?_⟩
    refine ⟨_, rfl, _, rfl, o, C, dx, fs, num gv, rfl, e1, OC.cl, OC.n_given, l3, _, _, rfl, rfl, ?_⟩
    refine ⟨(k : Nat), 0, (gv : Int) - 1, rfl, by omega, by omega, _, rfl, iteF ?_⟩
    refine ⟨_, rfl, _, rfl, o, C, dx, fs, .ref d, rfl, e1, OC.cl, OC.n_labels, l2, d, _, rfl, DGet.k (k := Sum.inl (k : Int)) e3, _, rfl, ?_⟩
    rw [dc.at_ _ _ _ hk hl]
    exact iteF q
def spLabel (C : Addr) : Sp := fun vs H Q _ => ∃ (N : Addr → Prop) (o : Addr) (ms ls : List Nat) (gv ts i k l : Nat), vs = [.ref o, num k] ∧ OrdA N H o C ms ls gv ts ∧ ms[i]? = some k ∧ ls[i]? = some l ∧ Q (num l) H
theorem ok_label (T : Txt K mg) (OC : OrdC K C) (m__need_mark : Met P w K mg base 2 C "_need_mark" (spNeed C) []) (M : MAt K C "label" "Order.label" s_Order_label ["self", "mark"]) : Met P w K mg base 3 C "label" (spLabel C) [] := by
  refine M.met OC.cl sc_Order_label (fun vs H Q E h => ?_) (fun f cdv A outer s H vs Q E hr h => ?_)
  · obtain ⟨N, o, ms, ls, gv, ts, i, k, l, rfl, _⟩ := h
    rfl
  · obtain ⟨N, o, ms, ls, gv, ts, i, k, l, rfl, r, hk, hl, q⟩ := h
    obtain ⟨dx, m, d, fs, kvs, e1, l1, l2, l3, l4, nl, e2, e3, dc, lf, No, Nm, Nd⟩ := r.ex
    refine ⟨_, (pss_cons (ps_expr (pe_mt m__need_mark hr (by decide) (pv 0) (pa_cons (pv 1) pa_nil)))
      (pss_one (ps_ret (pe_dget (hu_of hr) (pe_fld (pv 0) rfl) (pv 1) (fun _ _ => rfl))))), ?_⟩
    refine ⟨_, rfl, o, dx, fs, rfl, e1, nl _ (by decide), _, rfl, N, o, ms, ls, gv, ts, i, k, rfl, r, hk, ?_⟩
    have dg := DGet.k (k := Sum.inl (k : Int)) e3
    rw [dc.at_ _ _ _ hk hl] at dg
    exact ⟨_, rfl, o, C, dx, fs, .ref d, rfl, e1, OC.cl, OC.n_labels, l2, _, rfl, d, _, rfl, dg, q⟩
def spAhead (C : Addr) : Sp := fun vs H Q _ => ∃ (N : Addr → Prop) (o : Addr) (ms ls : List Nat) (gv ts i j k k2 : Nat), vs = [.ref o, num k, num k2] ∧ OrdA N H o C ms ls gv ts ∧ ms[i]? = some k ∧ ms[j]? = some k2 ∧ Q (.bl (decide (i < j))) H
theorem ok_ahead (T : Txt K mg) (OC : OrdC K C) (m_label : Met P w K mg base 3 C "label" (spLabel C) []) (M : MAt K C "ahead" "Order.ahead" s_Order_ahead ["self", "one", "other"]) : Met P w K mg base 4 C "ahead" (spAhead C) [] := by
  refine M.met OC.cl sc_Order_ahead (fun vs H Q E h => ?_) (fun f cdv A outer s H vs Q E hr h => ?_)
  · obtain ⟨N, o, ms, ls, gv, ts, i, j, k, k2, rfl, _⟩ := h
    rfl
  · obtain ⟨N, o, ms, ls, gv, ts, i, j, k, k2, rfl, r, hk, hk2, q⟩ := h
    obtain ⟨dx, fs, e1, nl⟩ := r.ins
    obtain ⟨l, hl⟩ := lab_of r.ok hk
    obtain ⟨l2, hl2⟩ := lab_of r.ok hk2
    refine ⟨_, (pss_one (ps_ret (pe_cmpR op_lt (pe_mt m_label hr (by decide) (pv 0) (pa_cons (pv 1) pa_nil)) (pe_mt m_label hr (by decide) (pv 0) (pa_cons (pv 2) pa_nil)) (nomark _)))), ?_⟩
    refine ⟨_, rfl, o, dx, fs, rfl, e1, nl _ (by decide), _, rfl, N, o, ms, ls, gv, ts, i, k, l, rfl, r, hk, hl, ?_⟩
    refine ⟨_, rfl, o, dx, fs, rfl, e1, nl _ (by decide), _, rfl, N, o, ms, ls, gv, ts, j, k2, l2, rfl, r, hk2, hl2, _, _, rfl, rfl, ?_⟩
    have e : decide ((l : Int) < (l2 : Int)) = decide (i < j) := by
      by_cases z : i < j
      · have := r.ok.inc _ _ _ _ z hl hl2
        rw [decide_eq_true z, decide_eq_true (by omega)]
      · rw [decide_eq_false z]
        refine decide_eq_false ?_
        by_cases z2 : i = j
        · subst z2
          rw [hl] at hl2
          have := Option.some.inj hl2
          omega
        · have := r.ok.inc _ _ _ _ (by omega : j < i) hl2 hl
          omega
    show Q (.bl (decide ((l : Int) < (l2 : Int)))) H
    rw [e]
    exact q
def spLabAt (C : Addr) : Sp := fun vs H Q _ => ∃ (N : Addr → Prop) (o : Addr) (ms ls : List Nat) (gv ts i : Nat), vs = [.ref o, num i] ∧ OrdA N H o C ms ls gv ts ∧ i ≤ ms.length ∧ Q (num (labAt ls i)) H
theorem ok_labat (T : Txt K mg) (OC : OrdC K C) (m_many : Met P w K mg base 1 C "many" (spMany C) []) (M : MAt K C "_label_at" "Order._label_at" s_Order__label_at ["self", "at"]) : Met P w K mg base 2 C "_label_at" (spLabAt C) [] := by
  refine M.met OC.cl sc_Order__label_at (fun vs H Q E h => ?_) (fun f cdv A outer s H vs Q E hr h => ?_)
  · obtain ⟨N, o, ms, ls, gv, ts, i, rfl, _⟩ := h
    rfl
  · obtain ⟨N, o, ms, ls, gv, ts, i, rfl, r, hi, q⟩ := h
    obtain ⟨dx, m, d, fs, kvs, e1, l1, l2, l3, l4, nl, e2, e3, dc, lf, No, Nm, Nd⟩ := r.ex
    refine ⟨_, (pss_cons (ps_if (pt_cmpR op_eq (pv 1) (pe_mt0 m_many hr (by decide) (pv 0)) (nomark _))
          (pss_one (ps_ret (pe_gi rfl T.g_LABELS))) pss_nil)
      (pss_one (ps_ret (pe_dget (hu_of hr) (pe_fld (pv 0) rfl) (pe_ix ix_list (pe_fld (pv 0) rfl) (pv 1) (fun _ _ => rfl)) (fun _ _ => rfl))))), ?_⟩
    refine ⟨_, rfl, _, rfl, o, dx, fs, rfl, e1, nl _ (by decide), N, o, ms, ls, gv, ts, rfl, r, rfl, _, rfl, ite2 (fun e => ?_) (fun e => ?_)⟩
    · have e2 : i = ms.length := by
        have := V.int.inj (of_decide_eq_true e)
        omega
      rw [labAt_end (by rw [r.ok.len]; omega)] at q
      exact q
    · have hlt : i < ms.length := by
        by_cases z : i = ms.length
        · exact absurd (decide_eq_true (by rw [z])) e
        · omega
      obtain ⟨k, hk⟩ : ∃ k, ms[i]? = some k := ⟨_, List.getElem?_eq_getElem hlt⟩
      obtain ⟨l, hl⟩ := lab_of r.ok hk
      rw [labAt_in hl] at q
      have hat : atI (ms.map num) ((i : Nat) : Int) = some (num k) := by
        refine atI_nat ?_
        rw [List.getElem?_map, hk]
        rfl
      have dg := DGet.k (k := Sum.inl (k : Int)) e3
      rw [dc.at_ _ _ _ hk hl] at dg
      exact ⟨_, rfl, o, C, dx, fs, .ref d, rfl, e1, OC.cl, OC.n_labels, l2, _, rfl, o, C, dx, fs, .ref m, rfl, e1, OC.cl, OC.n_marks, l1, _, rfl, m, _, _, _, rfl, rfl, SqL.of e2, hat, d, _, rfl, dg, q⟩
def spMarks (C : Addr) : Sp := fun vs H Q _ => ∃ (N : Addr → Prop) (o : Addr) (ms ls : List Nat) (gv ts : Nat), vs = [.ref o] ∧ OrdA N H o C ms ls gv ts ∧ ∀ (p : Addr) (H' : Hp), H p = none → Same H H' → H' p = some (.lst (ms.map num)) → Q (.ref p) H'
theorem ok_marks (T : Txt K mg) (OC : OrdC K C) (M : MAt K C "marks" "Order.marks" s_Order_marks ["self"]) : Met P w K mg base 1 C "marks" (spMarks C) [] := by
  refine M.met OC.cl sc_Order_marks (fun vs H Q E h => ?_) (fun f cdv A outer s H vs Q E hr h => ?_)
  · obtain ⟨N, o, ms, ls, gv, ts, rfl, _⟩ := h
    rfl
  · obtain ⟨N, o, ms, ls, gv, ts, rfl, r, q⟩ := h
    obtain ⟨dx, m, d, fs, kvs, e1, l1, l2, l3, l4, nl, e2, e3, dc, lf, No, Nm, Nd⟩ := r.ex
    refine ⟨_, (pss_one (ps_ret (pe_callTy call_list_of (by rfl) T.t_list boot_list_ (pa_cons (pe_fld (pv 0) rfl) pa_nil)))), ?_⟩
    exact ⟨_, rfl, o, C, dx, fs, .ref m, rfl, e1, OC.cl, OC.n_marks, l1, m, _, rfl, .inl (SqL.of e2), fun p hp => q p _ hp (same_new hp) upd_same⟩
end
end K15
set_option maxHeartbeats 1000000
namespace K15
open PySem PySem.Spec PyProof.Rows L2 Gd
open C8 (clsBody Met pe_mt pe_mt0)
theorem valV_drop {κ : Type} [DecidableEq κ] (k j : κ) : ∀ kvs : List (κ × V), valV (dropK kvs k) j = if j = k then none else valV kvs j
  | [] => by
    split
    · exact valV_nil
    · rfl
  | p :: r => by
    by_cases e : p.1 = k
    · rw [dropK_pos e, valV_drop k j r]
      by_cases e2 : j = k
      · rw [if_pos e2, if_pos e2]
      · rw [if_neg e2, if_neg e2, valV_neg (fun z => e2 (z.symm.trans e))]
    · rw [dropK_neg e]
      by_cases e3 : p.1 = j
      · rw [valV_pos e3, if_neg (fun z => e (e3.trans z)), valV_pos e3]
      · rw [valV_neg e3, valV_drop k j r, valV_neg e3]
theorem putK_old {κ : Type} [DecidableEq κ] {kvs : List (κ × V)} {k : κ} {v x : V} (h : valV kvs k = some x) : (putK kvs k v).length = kvs.length := by
  unfold putK
  rw [if_pos (by rw [valV_any, h]; rfl), List.length_map]
theorem num_inj {x y : Nat} (h : num x = num y) : x = y := by
  have := V.int.inj h
  omega
theorem key_ne {a b : Nat} (h : a ≠ b) : ¬ (Sum.inl (a : Int) : Key) = Sum.inl (b : Int) := fun z => h (by have := Sum.inl.inj z; omega)
theorem flat_nums (xs : List Nat) : (xs.map num).all flatV = true := by
  rw [List.all_eq_true]
  intro v hv
  obtain ⟨x, _, rfl⟩ := List.mem_map.mp hv
  rfl
section
variable {P : Program} {w : World} {K : PySem.W.Frag} {mg : Str → Option Value} {base : Heap} {C : Addr}
/-- labelled anew up to the j-th -/
def partL (n : Nat) (ls : List Nat) (j : Nat) : List Nat := (anewL n).take j ++ ls.drop j
theorem part_at {n j i : Nat} {ls : List Nat} (hl : ls.length = n) (hj : j ≤ n) : (partL n ls j)[i]? = if i < j then (anewL n)[i]? else ls[i]? := by
  unfold partL
  have h1 : ((anewL n).take j).length = j := by rw [List.length_take, anew_len]; omega
  by_cases e : i < j
  · rw [if_pos e, List.getElem?_append_left (by omega), List.getElem?_take, if_pos e]
  · rw [if_neg e, List.getElem?_append_right (by omega), h1, List.getElem?_drop]
    congr 1
    omega
def spAnew (C : Addr) : Sp := fun vs H Q _ => ∃ (N : Addr → Prop) (o : Addr) (ms ls : List Nat) (gv ts : Nat), vs = [.ref o] ∧ OrdA N H o C ms ls gv ts ∧
  ∀ H' : Hp, OrdA N H' o C ms (anewL ms.length) gv (ts + 1) → (∀ c u, ¬ N c → H c = some u → H' c = some u) → Q .non H'
theorem ok_anew (T : Txt K mg) (OC : OrdC K C) (m_many : Met P w K mg base 1 C "many" (spMany C) []) (M : MAt K C "_label_anew" "Order._label_anew" s_Order__label_anew ["self"]) : Met P w K mg base 2 C "_label_anew" (spAnew C) [] := by
  refine M.met OC.cl sc_Order__label_anew (fun vs H Q E h => ?_) (fun f cdv A outer s H vs Q E hr h => ?_)
  · obtain ⟨N, o, ms, ls, gv, ts, rfl, _⟩ := h
    rfl
  · obtain ⟨N, o, ms, ls, gv, ts, rfl, r, q⟩ := h
    obtain ⟨dx, m, d, fs, kvs, e1, l1, l2, l3, l4, nl, e2, e3, dc, lf, No, Nm, Nd⟩ := r.ex
    have hpos := r.ok.pos
    have hfew := r.ok.few
    have hol := r.ok.len
    refine ⟨_, (pss_cons (ps_set (i := 1) sc_Order__label_anew.nd rfl (Or.inl rfl) (pe_op op_fdiv (pe_gi rfl T.g_LABELS) (pe_mt0 m_many hr (by decide) (pv 0))))
      (pss_cons (ps_for PassesOwn.never rfl (pi_enum (by rfl) T.b_enumerate (pa_cons (pe_fld (pv 0) rfl) pa_nil)) (pg_tup (by rfl) (pgs_cons (pg_name (i := 2) sc_Order__label_anew.nd rfl (Or.inl rfl)) (pgs_cons (pg_name (i := 3) sc_Order__label_anew.nd rfl (Or.inl rfl)) pgs_nil)))
          (pss_one (ps_dput (hu_of hr) (pe_fld (pv 0) rfl) (pv 3) (pe_op op_mul (pv 2) (pv 1)) rfl)))
      (pss_one (ps_fldaug (pv 0) pe_int in_add)))), ?_⟩
    refine ⟨_, rfl, o, dx, fs, rfl, e1, nl _ (by decide), N, o, ms, ls, gv, ts, rfl, r, _, _, rfl, rfl, ⟨by omega, by omega⟩, ?_⟩
    have es : ((1024 : Int) / ((ms.length : Nat) : Int)) = ((1024 / ms.length : Nat) : Int) := by norm_cast
    refine ⟨_, rfl, o, C, dx, fs, .ref m, rfl, e1, OC.cl, OC.n_marks, l1, m, _, rfl, SqL.of e2, ?_⟩
    have om : o ≠ m := fun e => by rw [e, e2] at e1; cases e1
    have od : o ≠ d := fun e => by rw [e, e3] at e1; cases e1
    have md : m ≠ d := fun e => by rw [e, e3] at e2; cases e2
    refine for_it (walk_enum (K := K) (a := m) (xs := ms.map num)) (fun j σ H' => (∀ c u, c ≠ d → H c = some u → H' c = some u) ∧ (∃ kvs, H' d = some (.dK kvs) ∧ DictL kvs ms (partL ms.length ls j) gv) ∧ ∃ y2 y3 : Option V, σ = [some (.ref o), some (num (1024 / ms.length)), y2, y3])
      ⟨fun _ _ _ z => z, ⟨kvs, e3, dc⟩, none, none, ?_⟩ (fun j σ H' _ hP => SqL.of (hP.1 _ _ md e2)) (fun j x σ H1 H2 hj hP hY => ?_) (fun σ H1 hP => ?_)
    · show [some (V.ref o), some (V.int ((1024 : Int) / ((ms.length : Nat) : Int))), none, none] = _
      rw [es]
      rfl
    · obtain ⟨kp, ⟨kv, hd, dk⟩, y2, y3, rfl⟩ := hP
      obtain ⟨Tp, u, v, rfl, hT, rfl, hu, hv⟩ := hY
      rw [List.length_map] at hj
      replace hu : some (V.int (j : Nat)) = some u := hu
      replace hv : (ms.map num)[j]? = some v := hv
      cases (Option.some.inj hu)
      rw [List.getElem?_map] at hv
      obtain ⟨k, hk⟩ : ∃ k, ms[j]? = some k := ⟨_, List.getElem?_eq_getElem hj⟩
      rw [hk] at hv
      cases (show some (num k) = some v from hv)
      refine ⟨Tp, _, rfl, SqT.of upd_same, rfl, _, _, rfl, _, _, rfl, rfl, ?_⟩
      have hd2 := kep (u := .tup [V.int (j : Nat), num k]) hd hT
      have kp2 : ∀ c u, c ≠ d → H c = some u → (upd H1 Tp (.tup [V.int (j : Nat), num k])) c = some u := fun c u hc z => kep (kp c u hc z) hT
      generalize upd H1 Tp (.tup [V.int (j : Nat), num k]) = H3 at *
      obtain ⟨l, hl⟩ := lab_of r.ok hk
      have hold : valV kv (Sum.inl (k : Int)) = some (num l) := dk.at_ _ _ _ hk (by rw [part_at hol (by omega), if_neg (by omega)]; exact hl)
      refine ⟨_, rfl, _, rfl, _, _, rfl, rfl, .inl ⟨by omega, by omega⟩, ?_⟩
      refine ⟨_, rfl, o, C, dx, fs, .ref d, rfl, kp2 _ _ od e1, OC.cl, OC.n_labels, l2, _, rfl, d, _, rfl, DPut.k (k := Sum.inl (k : Int)) hd2 (small1000 (by have := dk.len; have := dk.few; omega)), fun c u hc z => ?_, ⟨_, upd_same, ?_, dk.few, fun i mm ll h1 h2 => ?_, fun kk hkk => ?_⟩, _, _, rfl⟩
      · rw [upd_ne hc]
        exact kp2 c u hc z
      · rw [putK_old hold]
        exact dk.len
      · rw [valV_put]
        rw [part_at hol (by omega)] at h2
        by_cases e : mm = k
        · subst e
          have eij := r.ok.nd _ _ _ h1 hk
          subst eij
          rw [if_pos (by omega), anew_at hj] at h2
          rw [if_pos rfl, ← Option.some.inj h2]
          show some (V.int _) = some (V.int _)
          congr 2
        · rw [if_neg (key_ne e)]
          refine dk.at_ _ _ _ h1 ?_
          rw [part_at hol (by omega)]
          have hij : i ≠ j := fun z => e (by rw [z, hk] at h1; exact (Option.some.inj h1).symm)
          by_cases z : i < j
          · rw [if_pos z]
            rw [if_pos (by omega)] at h2
            exact h2
          · rw [if_neg z]
            rw [if_neg (by omega)] at h2
            exact h2
      · rw [valV_put, if_neg (key_ne fun z => hkk j (by rw [hk, z]))]
        exact dk.no kk hkk
    · obtain ⟨kp, ⟨kv, hd, dk⟩, y2, y3, rfl⟩ := hP
      have hpart : partL ms.length ls (ms.map num).length = anewL ms.length := by
        unfold partL
        rw [List.length_map, List.take_of_length_le (by rw [anew_len]; omega), List.drop_eq_nil_of_le (by omega), List.append_nil]
      rw [hpart] at dk
      refine ⟨_, rfl, o, C, dx, fs, num ts, rfl, kp _ _ od e1, OC.cl, OC.n_times, l4, _, _, rfl, rfl, dx, fs, kp _ _ od e1, by omega, ?_⟩
      have hlen := putF_len (v := .int ((ts : Int) + 1)) l4
      refine q _ ⟨⟨dx, m, d, _, kv, upd_same, ?_, ?_, ?_, ?_, fun g hg => ?_, ?_, ?_, dk, by omega, No, Nm, Nd⟩, r.ok.anew⟩ fun c u hc z => ?_
      · rw [lookup_putF, if_neg (by decide)]
        exact l1
      · rw [lookup_putF, if_neg (by decide)]
        exact l2
      · rw [lookup_putF, if_neg (by decide)]
        exact l3
      · rw [lookup_putF, if_pos rfl]
        rfl
      · rw [lookup_putF, if_neg (fun z => hg (by rw [z]; decide))]
        exact nl g hg
      · rw [upd_ne om.symm]
        exact kp _ _ md e2
      · rw [upd_ne od.symm]
        exact hd
      · rw [upd_ne (fun e : c = o => hc (by rw [e]; exact No))]
        exact kp _ _ (fun e : c = d => hc (by rw [e]; exact Nd)) z
/-- how often all were labelled anew, behind a mark put behind the i-th -/
def readyT (ls : List Nat) (i ts : Nat) : Nat := if gap ls i then ts else ts + 1
def spBehind (C : Addr) : Sp := fun vs H Q _ => ∃ (N : Addr → Prop) (o : Addr) (ms ls : List Nat) (gv ts i k : Nat), vs = [.ref o, num k] ∧ OrdA N H o C ms ls gv ts ∧ ms[i]? = some k ∧ ms.length < 200 ∧ gv < 1000 ∧
  ∀ H' : Hp, OrdA N H' o C (inl ms (i + 1) gv) (inl (readyL ls i) (i + 1) (midL ls i)) (gv + 1) (readyT ls i ts) → (∀ c u, ¬ N c → H c = some u → H' c = some u) → Q (num gv) H'
theorem ok_behind (T : Txt K mg) (OC : OrdC K C) (m_many : Met P w K mg base 1 C "many" (spMany C) []) (m__need_mark : Met P w K mg base 2 C "_need_mark" (spNeed C) []) (m__label_at : Met P w K mg base 2 C "_label_at" (spLabAt C) []) (m__label_anew : Met P w K mg base 2 C "_label_anew" (spAnew C) [])
    (M : MAt K C "behind" "Order.behind" s_Order_behind ["self", "mark"]) : Met P w K mg base 3 C "behind" (spBehind C) [] := by
  refine M.met OC.cl sc_Order_behind (fun vs H Q E h => ?_) (fun f cdv A outer s H vs Q E hr h => ?_)
  · obtain ⟨N, o, ms, ls, gv, ts, i, k, rfl, _⟩ := h
    rfl
  · obtain ⟨N, o, ms, ls, gv, ts, i, k, rfl, r, hk, few, hgv, q⟩ := h
    obtain ⟨dx, m, d, fs, kvs, e1, l1, l2, l3, l4, nl, e2, e3, dc, lf, No, Nm, Nd⟩ := r.ex
    have hi : i < ms.length := by
      by_cases z : i < ms.length
      · exact z
      · rw [List.getElem?_eq_none (by omega)] at hk
        cases hk
    have hol := r.ok.len
    refine ⟨_, (pss_cons (ps_expr (pe_mt m__need_mark hr (by decide) (pv 0) (pa_cons (pv 1) pa_nil)))
      (pss_cons (ps_if (pt_cmpR op_ge (pe_mt0 m_many hr (by decide) (pv 0)) (pe_gi rfl T.g_MOST_MARKS) (nomark _))
          (pss_one ps_never) pss_nil)
      (pss_cons (ps_set (i := 2) sc_Order_behind.nd rfl (Or.inl rfl) (pe_bm PySem.F.plainAttrs_list PySem.F.slot_list_index PySem.F.type_list_index mt_index (pe_fld (pv 0) rfl) (pa_cons (pv 1) pa_nil)))
      (pss_cons (ps_if (pt_cmpR op_lt (pe_op op_sub (pe_mt m__label_at hr (by decide) (pv 0) (pa_cons (pe_op op_add (pv 2) pe_int) pa_nil)) (pe_mt m__label_at hr (by decide) (pv 0) (pa_cons (pv 2) pa_nil))) pe_int (nomark _))
          (pss_one (ps_expr (pe_mt0 m__label_anew hr (by decide) (pv 0)))) pss_nil)
      (pss_cons (ps_set (i := 3) sc_Order_behind.nd rfl (Or.inl rfl) (pe_fld (pv 0) rfl))
      (pss_cons (ps_fldaug (pv 0) pe_int in_add)
      (pss_cons (ps_dput (hu_of hr) (pe_fld (pv 0) rfl) (pv 3) (pe_op op_fdiv (pe_op op_add (pe_mt m__label_at hr (by decide) (pv 0) (pa_cons (pv 2) pa_nil)) (pe_mt m__label_at hr (by decide) (pv 0) (pa_cons (pe_op op_add (pv 2) pe_int) pa_nil))) pe_int) rfl)
      (pss_cons (ps_expr (pe_bm PySem.F.plainAttrs_list PySem.F.slot_list_insert PySem.F.type_list_insert mt_insert (pe_fld (pv 0) rfl) (pa_cons (pe_op op_add (pv 2) pe_int) (pa_cons (pv 3) pa_nil))))
      (pss_one (ps_ret (pv 3))))))))))), ?_⟩
    refine ⟨_, rfl, o, dx, fs, rfl, e1, nl _ (by decide), _, rfl, N, o, ms, ls, gv, ts, i, k, rfl, r, hk, ?_⟩
    refine ⟨_, rfl, o, dx, fs, rfl, e1, nl _ (by decide), N, o, ms, ls, gv, ts, rfl, r, _, _, rfl, rfl, _, rfl, ?_⟩
    rw [decide_eq_false (by omega : ¬ ((200 : Int) ≤ ((ms.length : Nat) : Int)))]
    refine iteF ?_
    refine ⟨_, rfl, o, C, dx, fs, .ref m, rfl, e1, OC.cl, OC.n_marks, l1, .inl ⟨rfl, _, SqL.of e2⟩, _, rfl, m, _, num k, i, num k, rfl, rfl, SqL.of e2, rfl, flat_nums _, ?_, by simp [eqV, num], fun mm z hm hz => ?_, ?_⟩
    · rw [List.getElem?_map, hk]
      rfl
    · rw [List.getElem?_map] at hz
      cases hx : ms[mm]? with
      | none =>
        rw [hx] at hz
        cases hz
      | some x =>
        rw [hx] at hz
        cases (show some (num x) = some z from hz)
        have hne : x ≠ k := fun e => by
          subst e
          have := r.ok.nd _ _ _ hx hk
          omega
        show eqV (.int (x : Nat)) (.int (k : Nat)) = false
        simp only [eqV, decide_eq_false_iff_not, beq_eq_false_iff_ne]
        intro z
        have z2 : (x : Int) = (k : Int) := by simpa using z
        exact hne (by omega)
    have ei : ((i : Nat) : Int) + 1 = ((i + 1 : Nat) : Int) := by omega
    have vi : [V.ref o, V.int (((i : Nat) : Int) + 1)] = [V.ref o, num (i + 1)] := by
      rw [ei]
      rfl
    refine ⟨_, rfl, o, dx, fs, rfl, e1, nl _ (by decide), _, rfl, _, _, rfl, rfl, N, o, ms, ls, gv, ts, i + 1, vi, r, by omega, ?_⟩
    refine ⟨_, rfl, o, dx, fs, rfl, e1, nl _ (by decide), _, rfl, N, o, ms, ls, gv, ts, i, rfl, r, by omega, _, _, rfl, rfl, _, _, rfl, rfl, _, rfl, ?_⟩
    refine ite2 (fun hlt => ?_) (fun hlt => ?_)
    focus
      have hg : ¬ gap ls i := fun z => by
        have := of_decide_eq_true hlt
        unfold gap at z
        omega
      refine ⟨_, rfl, o, dx, fs, rfl, e1, nl _ (by decide), N, o, ms, ls, gv, ts, rfl, r, fun H1 r1 k1 => ?_⟩
      have r2 : OrdA N H1 o C ms (readyL ls i) gv (readyT ls i ts) := by
        unfold readyL readyT
        rw [if_neg hg, if_neg hg, hol]
        exact r1
      clear r1 hlt hg
    rotate_left
    focus
      have hg : gap ls i := by
        by_cases z : gap ls i
        · exact z
        · refine absurd ?_ hlt
          unfold gap at z
          exact decide_eq_true (by omega)
      obtain ⟨H1, rfl⟩ : ∃ X, X = H := ⟨_, rfl⟩
      have k1 : ∀ c u, ¬ N c → H1 c = some u → H1 c = some u := fun _ _ _ z => z
      have r2 : OrdA N H1 o C ms (readyL ls i) gv (readyT ls i ts) := by
        unfold readyL readyT
        rw [if_pos hg, if_pos hg]
        exact r
      clear hlt hg
    all_goals
      have hmid : (((labAt (readyL ls i) i : Nat) : Int) + ((labAt (readyL ls i) (i + 1) : Nat) : Int)) / 2 = ((midL ls i : Nat) : Int) := by
        unfold midL
        norm_cast
      have ok2 := r.ok.put hi few
      have hrl := ready_len ls i
      clear e1 l1 l2 l3 l4 nl e2 e3 dc lf No Nm Nd
      obtain ⟨dx, m, d, fs, kvs, e1, l1, l2, l3, l4, nl, e2, e3, dc, lf, No, Nm, Nd⟩ := r2.ex
      refine ⟨_, rfl, o, C, dx, fs, num gv, rfl, e1, OC.cl, OC.n_given, l3, ?_⟩
      refine ⟨_, rfl, o, C, dx, fs, num gv, rfl, e1, OC.cl, OC.n_given, l3, _, _, rfl, rfl, dx, fs, e1, by omega, ?_⟩
      have om : o ≠ m := fun e => by rw [e, e2] at e1; cases e1
      have od : o ≠ d := fun e => by rw [e, e3] at e1; cases e1
      have md : m ≠ d := fun e => by rw [e, e3] at e2; cases e2
      have hlen := putF_len (v := .int ((gv : Int) + 1)) l3
      have k3 : ∀ c u, c ≠ o → H1 c = some u → (upd H1 o (.ins C dx (putF "_given" (.int ((gv : Int) + 1)) fs))) c = some u := fun c u hc z => by
        rw [upd_ne hc]
        exact z
      have o3 : (upd H1 o (.ins C dx (putF "_given" (.int ((gv : Int) + 1)) fs))) o = some (.ins C dx (putF "_given" (.int ((gv : Int) + 1)) fs)) := upd_same
      have q1 : (putF "_given" (.int ((gv : Int) + 1)) fs).lookup ("_marks" : Str) = some (.ref m) := by rw [lookup_putF, if_neg (by decide)]; exact l1
      have q2 : (putF "_given" (.int ((gv : Int) + 1)) fs).lookup ("_labels" : Str) = some (.ref d) := by rw [lookup_putF, if_neg (by decide)]; exact l2
      have q3 : (putF "_given" (.int ((gv : Int) + 1)) fs).lookup ("_given" : Str) = some (num (gv + 1)) := by rw [lookup_putF, if_pos rfl]; rfl
      have q4 : (putF "_given" (.int ((gv : Int) + 1)) fs).lookup ("_times" : Str) = some (num (readyT ls i ts)) := by rw [lookup_putF, if_neg (by decide)]; exact l4
      have ql : ∀ f, f ∉ fields → (putF "_given" (.int ((gv : Int) + 1)) fs).lookup f = none := fun g hg => by
        rw [lookup_putF, if_neg (fun z => hg (by rw [z]; decide))]
        exact nl g hg
      generalize putF "_given" (.int ((gv : Int) + 1)) fs = fs3 at *
      generalize upd H1 o (.ins C dx fs3) = H3 at *
      have e23 := k3 _ _ om.symm e2
      have e33 := k3 _ _ od.symm e3
      have dc3 : DictL kvs ms (readyL ls i) (gv + 1) := ⟨by have := dc.len; omega, by omega, dc.at_, dc.no⟩
      have ok3 : Ok ms (readyL ls i) (gv + 1) := ⟨r2.ok.len, r2.ok.pos, r2.ok.few, r2.ok.nd, fun a b z => by have := r2.ok.lt a b z; omega, r2.ok.inc, r2.ok.top⟩
      have r3 : OrdA N H3 o C ms (readyL ls i) (gv + 1) (readyT ls i ts) := ⟨⟨dx, m, d, fs3, kvs, o3, q1, q2, q3, q4, ql, e23, e33, dc3, by omega, No, Nm, Nd⟩, ok3⟩
      refine ⟨_, rfl, o, dx, fs3, rfl, o3, ql _ (by decide), _, rfl, N, o, ms, readyL ls i, gv + 1, readyT ls i ts, i, rfl, r3, by omega, ?_⟩
      refine ⟨_, rfl, o, dx, fs3, rfl, o3, ql _ (by decide), _, rfl, _, _, rfl, rfl, N, o, ms, readyL ls i, gv + 1, readyT ls i ts, i + 1, vi, r3, by omega, _, _, rfl, rfl, _, _, rfl, rfl, ⟨by omega, by omega⟩, ?_⟩
      refine ⟨_, rfl, o, C, dx, fs3, .ref d, rfl, o3, OC.cl, OC.n_labels, q2, _, rfl, d, _, rfl, DPut.k (k := Sum.inl (gv : Int)) e33 (small1000 (by have := dc.len; omega)), ?_⟩
      have hnew : valV kvs (Sum.inl (gv : Int)) = none := dc.no gv fun a z => by have := r.ok.lt a gv z; omega
      have vmid : V.int ((((labAt (readyL ls i) i : Nat) : Int) + ((labAt (readyL ls i) (i + 1) : Nat) : Int)) / 2) = num (midL ls i) := by
        rw [hmid]
        rfl
      have k4 : ∀ c u, c ≠ d → H3 c = some u → (upd H3 d (.dK (putK kvs (Sum.inl (gv : Int)) (V.int ((((labAt (readyL ls i) i : Nat) : Int) + ((labAt (readyL ls i) (i + 1) : Nat) : Int)) / 2))))) c = some u := fun c u hc z => by
        rw [upd_ne hc]
        exact z
      have d4 : (upd H3 d (.dK (putK kvs (Sum.inl (gv : Int)) (V.int ((((labAt (readyL ls i) i : Nat) : Int) + ((labAt (readyL ls i) (i + 1) : Nat) : Int)) / 2))))) d = some (.dK (putK kvs (Sum.inl (gv : Int)) (num (midL ls i)))) := by
        rw [upd_same, vmid]
      show _
      generalize upd H3 d (.dK (putK kvs (Sum.inl (gv : Int)) (V.int ((((labAt (readyL ls i) i : Nat) : Int) + ((labAt (readyL ls i) (i + 1) : Nat) : Int)) / 2)))) = H4 at *
      have o4 := k4 _ _ od o3
      have m4 := k4 _ _ md e23
      refine ⟨_, rfl, o, C, dx, fs3, .ref m, rfl, o4, OC.cl, OC.n_marks, q1, .inl ⟨rfl, _, SqL.of m4⟩, _, rfl, _, _, rfl, rfl, _, rfl, m, _, _, _, rfl, rfl, m4, small1000 (by rw [List.length_map]; omega), by omega, by omega, ?_⟩
      have em : (ms.map num).take (((i : Nat) : Int) + 1).toNat ++ [num gv] ++ (ms.map num).drop (((i : Nat) : Int) + 1).toNat = (inl ms (i + 1) gv).map num := by
        rw [inl_map, show (((i : Nat) : Int) + 1).toNat = i + 1 from by omega]
        rfl
      refine ⟨_, rfl, q _ ⟨⟨dx, m, d, fs3, putK kvs (Sum.inl (gv : Int)) (num (midL ls i)), ?_, q1, q2, q3, q4, ql, ?_, ?_, ⟨?_, by omega, fun a mm ll h1 h2 => ?_, fun kk hkk => ?_⟩, by omega, No, Nm, Nd⟩, ok2⟩ fun c u hc z => ?_⟩
      · rw [upd_ne om]
        exact o4
      · rw [upd_same, em]
      · rw [upd_ne md.symm]
        exact d4
      · have := length_putK kvs (Sum.inl (gv : Int)) (num (midL ls i))
        have := dc.len
        omega
      · rw [valV_put]
        rw [inl_at (by omega)] at h1
        rw [inl_at (by omega)] at h2
        by_cases e : a < i + 1
        · rw [if_pos e] at h1 h2
          have := r.ok.lt _ _ h1
          rw [if_neg (key_ne (by omega))]
          exact dc.at_ _ _ _ h1 h2
        · rw [if_neg e] at h1 h2
          by_cases e5 : a = i + 1
          · rw [if_pos e5] at h1 h2
            rw [← Option.some.inj h1, if_pos rfl, ← Option.some.inj h2]
          · rw [if_neg e5] at h1 h2
            have := r.ok.lt _ _ h1
            rw [if_neg (key_ne (by omega))]
            exact dc.at_ _ _ _ h1 h2
      · have hkg : kk ≠ gv := fun z => hkk (i + 1) (by rw [inl_at (by omega), if_neg (by omega), if_pos rfl, z])
        rw [valV_put, if_neg (key_ne hkg)]
        refine dc.no kk fun a z => ?_
        by_cases e : a < i + 1
        · exact hkk a (by rw [inl_at (by omega), if_pos e]; exact z)
        · exact hkk (a + 1) (by rw [inl_at (by omega), if_neg (by omega), if_neg (by omega)]; exact z)
      · have c1 : c ≠ o := fun e => hc (by rw [e]; exact No)
        have c2 : c ≠ d := fun e => hc (by rw [e]; exact Nd)
        have c3 : c ≠ m := fun e => hc (by rw [e]; exact Nm)
        rw [upd_ne c3]
        exact k4 _ _ c2 (k3 _ _ c1 (k1 c u hc z))
end
end K15
set_option maxHeartbeats 1000000
namespace K15
open PySem PySem.Spec PyProof.Rows L2 Gd
open C8 (clsBody Met pe_mt pe_mt0)
theorem er_map {α β : Type} (f : α → β) (l : List α) (k : Nat) : (l.map f).eraseIdx k = (l.eraseIdx k).map f := by
  apply List.ext_getElem?
  intro j
  rw [er_at, List.getElem?_map, List.getElem?_map, List.getElem?_map, er_at]
  split
  · rfl
  · rfl
theorem none_of' {H H' : Hp} {p : Addr} (sm : Same H H') (h : H' p = none) : H p = none := by
  cases z : H p with
  | none => rfl
  | some u =>
    have z2 := sm _ _ z
    rw [h] at z2
    cases z2
section
variable {P : Program} {w : World} {K : PySem.W.Frag} {mg : Str → Option Value} {base : Heap} {C : Addr}
def spDrop (C : Addr) : Sp := fun vs H Q _ => ∃ (N : Addr → Prop) (o : Addr) (ms ls : List Nat) (gv ts i k : Nat), vs = [.ref o, num k] ∧ OrdA N H o C ms ls gv ts ∧ ms[i]? = some k ∧ 1 < ms.length ∧
  ∀ H' : Hp, OrdA N H' o C (ms.eraseIdx i) (ls.eraseIdx i) gv ts → (∀ c u, ¬ N c → H c = some u → H' c = some u) → Q .non H'
theorem ok_drop (T : Txt K mg) (OC : OrdC K C) (m_many : Met P w K mg base 1 C "many" (spMany C) []) (m__need_mark : Met P w K mg base 2 C "_need_mark" (spNeed C) [])
    (M : MAt K C "drop" "Order.drop" s_Order_drop ["self", "mark"]) : Met P w K mg base 3 C "drop" (spDrop C) [] := by
  refine M.met OC.cl sc_Order_drop (fun vs H Q E h => ?_) (fun f cdv A outer s H vs Q E hr h => ?_)
  · obtain ⟨N, o, ms, ls, gv, ts, i, k, rfl, _⟩ := h
    rfl
  · obtain ⟨N, o, ms, ls, gv, ts, i, k, rfl, r, hk, h2, q⟩ := h
    obtain ⟨dx, m, d, fs, kvs, e1, l1, l2, l3, l4, nl, e2, e3, dc, lf, No, Nm, Nd⟩ := r.ex
    have hi : i < ms.length := by
      by_cases z : i < ms.length
      · exact z
      · rw [List.getElem?_eq_none (by omega)] at hk
        cases hk
    obtain ⟨l, hl⟩ := lab_of r.ok hk
    have om : o ≠ m := fun e => by rw [e, e2] at e1; cases e1
    have od : o ≠ d := fun e => by rw [e, e3] at e1; cases e1
    have md : m ≠ d := fun e => by rw [e, e3] at e2; cases e2
    refine ⟨_, (pss_cons (ps_expr (pe_mt m__need_mark hr (by decide) (pv 0) (pa_cons (pv 1) pa_nil)))
      (pss_cons (ps_if (pt_cmpR op_eq (pe_mt0 m_many hr (by decide) (pv 0)) pe_int (nomark _))
          (pss_one ps_never) pss_nil)
      (pss_cons (ps_expr (pe_bm PySem.F.plainAttrs_list PySem.F.slot_list_remove PySem.F.type_list_remove mt_remove (pe_fld (pv 0) rfl) (pa_cons (pv 1) pa_nil)))
      (pss_one (ps_ddel (pe_fld (pv 0) rfl) (pv 1)))))), ?_⟩
    refine ⟨_, rfl, o, dx, fs, rfl, e1, nl _ (by decide), _, rfl, N, o, ms, ls, gv, ts, i, k, rfl, r, hk, ?_⟩
    refine ⟨_, rfl, o, dx, fs, rfl, e1, nl _ (by decide), N, o, ms, ls, gv, ts, rfl, r, rfl, _, rfl, ?_⟩
    rw [decide_eq_false (fun e => by have := V.int.inj e; omega : ¬ (num ms.length = V.int 1))]
    refine iteF ?_
    have em : (ms.map num) = (ms.map fun n => ((n : Nat) : Int)).map V.int := by
      rw [List.map_map]
      rfl
    have er : ((ms.map fun n => ((n : Nat) : Int)).eraseIdx i).map V.int = (ms.eraseIdx i).map num := by
      rw [er_map, List.map_map]
      rfl
    refine ⟨_, rfl, o, C, dx, fs, .ref m, rfl, e1, OC.cl, OC.n_marks, l1, .inl ⟨rfl, _, SqL.of e2⟩, _, rfl, m, ms.map (fun n => ((n : Nat) : Int)), k, i, rfl, rfl, (by rw [← em]; exact e2), ?_, fun mm hm hz => ?_, ?_⟩
    · rw [List.getElem?_map, hk]
      rfl
    · rw [List.getElem?_map] at hz
      cases hx : ms[mm]? with
      | none =>
        rw [hx] at hz
        cases hz
      | some x =>
        rw [hx] at hz
        have e : x = k := by
          have : ((x : Nat) : Int) = (k : Int) := Option.some.inj hz
          omega
        subst e
        have := r.ok.nd _ _ _ hx hk
        omega
    · rw [er]
      have k3 : ∀ c u, c ≠ m → H c = some u → (upd H m (.lst ((ms.eraseIdx i).map num))) c = some u := fun c u hc z => by
        rw [upd_ne hc]
        exact z
      have m3 : (upd H m (.lst ((ms.eraseIdx i).map num))) m = some (.lst ((ms.eraseIdx i).map num)) := upd_same
      generalize upd H m (.lst ((ms.eraseIdx i).map num)) = H3 at *
      have o3 := k3 _ _ om e1
      have d3 := k3 _ _ md.symm e3
      refine ⟨_, rfl, o, C, dx, fs, .ref d, rfl, o3, OC.cl, OC.n_labels, l2, _, rfl, d, kvs, Sum.inl (k : Int), rfl, d3, rfl, ?_, ?_⟩
      · rw [dc.at_ _ _ _ hk hl]
        rfl
      · refine q _ ⟨⟨dx, m, d, fs, dropK kvs (Sum.inl (k : Int)), ?_, l1, l2, l3, l4, nl, ?_, upd_same, ⟨?_, dc.few, fun a mm ll h1 h2 => ?_, fun kk hkk => ?_⟩, lf, No, Nm, Nd⟩, r.ok.drop hi h2⟩ fun c u hc z => ?_
        · rw [upd_ne od]
          exact o3
        · rw [upd_ne md]
          exact m3
        · exact Nat.le_trans (dropK_le _ _) dc.len
        · rw [er_at] at h1 h2
          have hne : mm ≠ k := fun e => by
            subst e
            split at h1
            · have := r.ok.nd _ _ _ h1 hk
              omega
            · have := r.ok.nd _ _ _ h1 hk
              omega
          rw [valV_drop, if_neg (key_ne hne)]
          split at h1
          · rw [if_pos (by assumption)] at h2
            exact dc.at_ _ _ _ h1 h2
          · rw [if_neg (by assumption)] at h2
            exact dc.at_ _ _ _ h1 h2
        · rw [valV_drop]
          by_cases e : kk = k
          · rw [if_pos (by rw [e])]
          · rw [if_neg (key_ne e)]
            refine dc.no kk fun a z => ?_
            have hai : a ≠ i := fun y => e (by rw [y, hk] at z; exact (Option.some.inj z).symm)
            by_cases y : a < i
            · exact hkk a (by rw [er_at, if_pos y]; exact z)
            · obtain ⟨b, rfl⟩ : ∃ b, a = b + 1 := ⟨a - 1, by omega⟩
              exact hkk b (by rw [er_at, if_neg (by omega)]; exact z)
        · have c1 : c ≠ m := fun e => hc (by rw [e]; exact Nm)
          have c2 : c ≠ d := fun e => hc (by rw [e]; exact Nd)
          rw [upd_ne c2]
          exact k3 _ _ c1 z
def spInit (C : Addr) : Sp := fun vs H Q _ => ∃ (o dx : Addr), vs = [.ref o] ∧ H o = some (.ins C dx []) ∧
  ∀ (H' : Hp) (N' : Addr → Prop), OrdA N' H' o C [0] [0] 1 0 → (∀ c u, c ≠ o → H c = some u → H' c = some u) → (∀ c, N' c → c = o ∨ H c = none) → Q .non H'
theorem fn_init {f : Addr} {fd : FuncData} (T : Txt K mg) (OC : OrdC K C) (F : Fun K "__init__" "Order.__init__" s_Order___init__ f fd) : FnOk P w K mg base CX0 1 f fd ["self"] (spInit C) := by
  refine F.ok sc_Order___init__ (fun vs H Q E h => ?_) (fun cdv A outer s H vs Q E hr h => ?_)
  · obtain ⟨o, dx, rfl, _⟩ := h
    rfl
  · obtain ⟨o, dx, rfl, e1, q⟩ := h
    refine ⟨_, (pss_cons (ps_fld (pv 0) (pe_lst (pa_cons pe_int pa_nil)) rfl)
      (pss_cons (ps_fld (pv 0) (pe_disp (pps_cons pe_int pe_int pps_nil) (by rfl) (by rfl) (fun z => by cases z) (by decide)) rfl)
      (pss_cons (ps_fld (pv 0) pe_int rfl)
      (pss_one (ps_fld (pv 0) pe_int rfl))))), ?_⟩
    refine ⟨(by show 1 ≤ sizeLine; decide), fun m hm => ?_⟩
    have om : o ≠ m := fun e => by rw [← e, e1] at hm; cases hm
    refine ⟨_, rfl, o, C, dx, [], rfl, kep e1 hm, OC.cl, OC.n_marks, by decide, ?_⟩
    have k1 : ∀ c u, c ≠ o → H c = some u → (upd (upd H m (.lst [V.int 0])) o (.ins C dx (putF "_marks" (.ref m) []))) c = some u := fun c u h z => by
      rw [upd_ne h]
      exact kep z hm
    have n1 : ∀ c, (upd (upd H m (.lst [V.int 0])) o (.ins C dx (putF "_marks" (.ref m) []))) c = none → H c = none := fun c z => upd_none (upd_none z)
    have a1o : (upd (upd H m (.lst [V.int 0])) o (.ins C dx (putF "_marks" (.ref m) []))) o = some (.ins C dx (putF "_marks" (.ref m) [])) := upd_same
    have a1m : (upd (upd H m (.lst [V.int 0])) o (.ins C dx (putF "_marks" (.ref m) []))) m = some (.lst [V.int 0]) := by
      rw [upd_ne om.symm, upd_same]
    generalize upd (upd H m (.lst [V.int 0])) o (.ins C dx (putF "_marks" (.ref m) [])) = A1 at *
    intro d hd
    have odd : o ≠ d := fun e => by rw [← e, a1o] at hd; cases hd
    have mdd : m ≠ d := fun e => by rw [← e, a1m] at hd; cases hd
    refine ⟨upd_same, [(Sum.inl 0, .int 0)], rfl, by decide, ?_⟩
    have p1 : (putF "_marks" (.ref m) ([] : List (Str × V))).length ≤ 1 := length_putF _ _ _
    refine ⟨_, rfl, o, C, dx, _, rfl, ?_, OC.cl, OC.n_labels, Nat.lt_of_le_of_lt p1 (by decide), ?_⟩
    · rw [upd_ne odd, upd_ne odd]
      exact a1o
    have k2 : ∀ c u, c ≠ o → A1 c = some u → (upd (upd (upd A1 d (.dK [])) d (.dK (mergeK [] [((Sum.inl 0 : Key), V.int 0)]))) o (.ins C dx (putF "_labels" (.ref d) (putF "_marks" (.ref m) [])))) c = some u := fun c u h z => by
      rw [upd_ne h, upd_ne (ne_of_none z hd), upd_ne (ne_of_none z hd)]
      exact z
    have a2o : (upd (upd (upd A1 d (.dK [])) d (.dK (mergeK [] [((Sum.inl 0 : Key), V.int 0)]))) o (.ins C dx (putF "_labels" (.ref d) (putF "_marks" (.ref m) [])))) o = some (.ins C dx (putF "_labels" (.ref d) (putF "_marks" (.ref m) []))) := upd_same
    have a2d : (upd (upd (upd A1 d (.dK [])) d (.dK (mergeK [] [((Sum.inl 0 : Key), V.int 0)]))) o (.ins C dx (putF "_labels" (.ref d) (putF "_marks" (.ref m) [])))) d = some (.dK [((Sum.inl 0 : Key), V.int 0)]) := by
      rw [upd_ne odd.symm, upd_same]
      rfl
    have a2m := k2 _ _ om.symm a1m
    generalize upd (upd (upd A1 d (.dK [])) d (.dK (mergeK [] [((Sum.inl 0 : Key), V.int 0)]))) o (.ins C dx (putF "_labels" (.ref d) (putF "_marks" (.ref m) []))) = A2 at *
    have p2 : (putF "_labels" (.ref d) (putF "_marks" (.ref m) ([] : List (Str × V)))).length ≤ 2 := Nat.le_trans (length_putF _ _ _) (Nat.succ_le_succ p1)
    refine ⟨_, rfl, o, C, dx, _, rfl, a2o, OC.cl, OC.n_given, Nat.lt_of_le_of_lt p2 (by decide), ?_⟩
    have p3 : (putF "_given" (.int 1) (putF "_labels" (.ref d) (putF "_marks" (.ref m) ([] : List (Str × V))))).length ≤ 3 := Nat.le_trans (length_putF _ _ _) (Nat.succ_le_succ p2)
    refine ⟨_, rfl, o, C, dx, _, rfl, upd_same, OC.cl, OC.n_times, Nat.lt_of_le_of_lt p3 (by decide), ?_⟩
    have p4 : (putF "_times" (.int 0) (putF "_given" (.int 1) (putF "_labels" (.ref d) (putF "_marks" (.ref m) ([] : List (Str × V)))))).length ≤ 4 := Nat.le_trans (length_putF _ _ _) (Nat.succ_le_succ p3)
    refine q _ (fun c => c = o ∨ c = m ∨ c = d) ⟨⟨dx, m, d, _, [((Sum.inl 0 : Key), V.int 0)], upd_same, ?_, ?_, ?_, ?_, fun g hg => ?_, ?_, ?_, ⟨Nat.le_refl 1, by decide, fun a mm ll h1 h2 => ?_, fun kk hkk => ?_⟩, Nat.le_trans p4 (by decide), .inl rfl, .inr (.inl rfl), .inr (.inr rfl)⟩, ?_⟩ (fun c u hc z => ?_) fun c hc => ?_
    · rw [lookup_putF, if_neg (by decide), lookup_putF, if_neg (by decide), lookup_putF, if_neg (by decide), lookup_putF, if_pos rfl]
    · rw [lookup_putF, if_neg (by decide), lookup_putF, if_neg (by decide), lookup_putF, if_pos rfl]
    · rw [lookup_putF, if_neg (by decide), lookup_putF, if_pos rfl]
      rfl
    · rw [lookup_putF, if_pos rfl]
      rfl
    · have hm2 : g ≠ "_times" ∧ g ≠ "_given" ∧ g ≠ "_labels" ∧ g ≠ "_marks" := ⟨fun e => hg (by rw [e]; decide), fun e => hg (by rw [e]; decide), fun e => hg (by rw [e]; decide), fun e => hg (by rw [e]; decide)⟩
      rw [lookup_putF, if_neg hm2.1, lookup_putF, if_neg hm2.2.1, lookup_putF, if_neg hm2.2.2.1, lookup_putF, if_neg hm2.2.2.2]
      rfl
    · rw [upd_ne om.symm, upd_ne om.symm]
      exact a2m
    · rw [upd_ne odd.symm, upd_ne odd.symm]
      exact a2d
    · cases a with
      | zero =>
        cases (show some 0 = some mm from h1)
        cases (show some 0 = some ll from h2)
        exact valV_pos rfl
      | succ a => cases h1
    · have hk0 : kk ≠ 0 := fun z => hkk 0 (by rw [z]; rfl)
      rw [valV_neg (fun z => key_ne (a := 0) (b := kk) (fun y => hk0 y.symm) z)]
      rfl
    · refine ⟨rfl, Nat.succ_pos 0, by decide, fun a b x h1 h2 => ?_, fun a x h1 => ?_, fun a b x y hab h1 h2 => ?_, fun a x h1 => ?_⟩
      · cases a with
        | zero =>
          cases b with
          | zero => rfl
          | succ b => cases h2
        | succ a => cases h1
      · cases a with
        | zero =>
          cases (show some 0 = some x from h1)
          decide
        | succ a => cases h1
      · cases b with
        | zero => omega
        | succ b => cases h2
      · cases a with
        | zero =>
          cases (show some 0 = some x from h1)
          decide
        | succ a => cases h1
    · rw [upd_ne hc, upd_ne hc]
      exact k2 _ _ hc (k1 _ _ hc z)
    · rcases hc with rfl | rfl | rfl
      · exact .inl rfl
      · exact .inr hm
      · exact .inr (n1 _ hd)
end
end K15
set_option maxHeartbeats 1000000
namespace K15
open PySem PySem.Spec PyProof.Rows L2 Gd
open C8 (clsBody Met pe_mt pe_mt0)
abbrev kl : Key := Sum.inr "left"
abbrev ks : Key := Sum.inr "seed"
abbrev kt : Key := Sum.inr "turn"
abbrev kr : Key := Sum.inr "row"
abbrev kg : Key := Sum.inr "given"
/-- the box of a cell, at most so many numbers drawn -/
def BoxD (H : Hp) (b : Addr) (n : Int) : Prop := ∃ (x y z : Int) (kvs : List (Key × V)), H b = some (.dK kvs) ∧ kvs.length = 3 ∧ valV kvs kl = some (.int x) ∧ valV kvs ks = some (.int y) ∧ valV kvs kt = some (.int z) ∧ 0 ≤ x ∧ 0 ≤ y ∧ y < 2147483647 ∧ 0 ≤ z ∧ z ≤ n
theorem BoxD.kp {H H' : Hp} {b : Addr} {n : Int} (h : BoxD H b n) (k : ∀ u, H b = some u → H' b = some u) : BoxD H' b n := by
  obtain ⟨x, y, z, kvs, h1, h2⟩ := h
  exact ⟨x, y, z, kvs, k _ h1, h2⟩
theorem BoxD.some {H : Hp} {b : Addr} {n : Int} (h : BoxD H b n) : ∃ u, H b = some u := by
  obtain ⟨x, y, z, kvs, h1, h2⟩ := h
  exact ⟨_, h1⟩
theorem BoxD.up {H : Hp} {b : Addr} {n m : Int} (h : BoxD H b n) (k : n ≤ m) : BoxD H b m := by
  obtain ⟨x, y, z, kvs, h1, h2, h3, h4, h5, h6, h7, h8, h9, h10⟩ := h
  exact ⟨x, y, z, kvs, h1, h2, h3, h4, h5, h6, h7, h8, h9, by omega⟩
theorem BoxD.ne {H : Hp} {b p : Addr} {n : Int} (h : BoxD H b n) (e : H p = none) : p ≠ b := fun z => by
  obtain ⟨u, hu⟩ := h.some
  rw [z, hu] at e
  cases e
theorem dgs {H : Hp} {a : Addr} {kvs : List (Key × V)} {k : Str} {v : V} (e : H a = some (.dK kvs)) (h : valV kvs (Sum.inr k) = some v) : DGet H a (.str k) (some v) := h ▸ DGet.k (k := Sum.inr k) e
section
variable {P : Program} {w : World} {K : PySem.W.Frag} {mg : Str → Option Value} {base : Heap} {C : Addr}
theorem ok_cell (T : Txt K mg) (D : DefAt K mg "_law_cell_at" s__law_cell_at ["_law_script", "_law_k"]) : CalG P w K mg base 1 "_law_cell_at" (Gd.spCell K) := by
  refine D.cal sc__law_cell_at (fun vs H Q E h => ?_) (fun f cdv A outer s H vs Q E hG hr h => ?_)
  · obtain ⟨a, ns, k, rfl, _⟩ := h
    rfl
  · obtain ⟨a, ns, k, rfl, hS, hl, hk, q⟩ := h
    refine ⟨_, (pss_cons (ps_if (pt_cmpR op_lt (pv 1) (pe_callB call_len (by rfl) T.b_len boot_len_ (pa_cons (pv 0) pa_nil)) (nomark _))
          (pss_one (ps_ret (pe_ix ix_list (pv 0) (pv 1) (fun _ _ => rfl)))) pss_nil)
      (pss_one (ps_ret (pe_op op_add (pe_op op_mul pe_int (pv 1)) pe_int)))), ?_⟩
    refine ⟨_, rfl, _, rfl, _, _, rfl, .inl ⟨_, hS, rfl⟩, _, _, rfl, rfl, _, rfl, ?_⟩
    refine ite2 (fun e => ?_) (fun e => ?_)
    · have e2 := of_decide_eq_true e
      rw [List.length_map] at e2
      obtain ⟨n, hn⟩ := atI_ints hk e2
      exact ⟨_, rfl, _, rfl, _, _, _, _, rfl, rfl, hS, hn, q n⟩
    · exact ⟨_, rfl, _, _, rfl, rfl, .inl ⟨by decide, by decide⟩, _, _, rfl, rfl, q _⟩
def spBoxD : Sp := fun vs H Q _ => ∃ n : Int, vs = [.int n] ∧ ∀ (b : Addr) (H' : Hp), H b = none → BoxD H' b 0 → (∀ c, c ≠ b → H' c = H c) → Q (.ref b) H'
theorem ok_box (T : Txt K mg) (D : DefAt K mg "_law_box" s__law_box ["_law_cell"]) : CalG P w K mg base 1 "_law_box" spBoxD := by
  refine D.cal sc__law_box (fun vs H Q E h => ?_) (fun f cdv A outer s H vs Q E hG hr h => ?_)
  · obtain ⟨n, rfl, _⟩ := h
    rfl
  · obtain ⟨n, rfl, q⟩ := h
    refine ⟨_, (pss_one (ps_ret (pe_disp (pps_cons pe_str (pe_callB (call_max2 rfl) (by rfl) T.b_max boot_max_ (pa_cons pe_int (pa_cons (pe_op op_sub (pv 0) (pe_op op_pow pe_int pe_int)) pa_nil))) (pps_cons pe_str (pe_op op_mod (pv 0) pe_int) (pps_cons pe_str pe_int pps_nil))) (by rfl) (by rfl) (fun z => by cases z) (by decide)))), ?_⟩
    intro b hb
    refine ⟨_, rfl, _, _, rfl, rfl, ⟨by decide, by decide, by decide⟩, _, _, rfl, rfl, _, _, rfl, ?_⟩
    refine ⟨_, rfl, _, _, rfl, rfl, (by show (0 : Int) < 2147483647; decide), ?_⟩
    refine ⟨upd_same, [(kl, _), (ks, _), (kt, .int 0)], rfl, (by show 3 ≤ 15; decide), ?_⟩
    refine q b _ hb ⟨_, _, _, _, upd_same, rfl, valV_pos rfl, (valV_neg (show ¬ kl = ks by decide)).trans (valV_pos rfl), (valV_neg (show ¬ kl = kt by decide)).trans ((valV_neg (show ¬ ks = kt by decide)).trans (valV_pos rfl)), ?_, ?_, ?_, by decide, by decide⟩ fun c hc => ?_
    · split <;> omega
    · exact Int.emod_nonneg _ (by decide)
    · exact Int.emod_lt_of_pos _ (by decide)
    · rw [upd_ne hc, upd_ne hc]
def spTakeD : Sp := fun vs H Q _ => ∃ (b : Addr) (m n : Int), vs = [.ref b, .int m] ∧ BoxD H b n ∧ n ≤ 1000000 ∧ 0 < m ∧ m ≤ 1000000000 ∧
  ∀ (d : Int) (H' : Hp), 0 ≤ d → d < m → BoxD H' b (n + 1) → (∀ c, c ≠ b → H' c = H c) → Q (.int d) H'
theorem ok_take (T : Txt K mg) (D : DefAt K mg "_law_take" s__law_take ["_law_box_here", "_law_many"]) : CalG P w K mg base 1 "_law_take" spTakeD := by
  refine D.cal sc__law_take (fun vs H Q E h => ?_) (fun f cdv A outer s H vs Q E hG hr h => ?_)
  · obtain ⟨b, m, n, rfl, _⟩ := h
    rfl
  · obtain ⟨b, m, n, rfl, hB, hn, hm0, hm1, q⟩ := h
    obtain ⟨x, y, z, kvs, hb, hl3, vl, vs, vt, hx, hy0, hy1, hz0, hz1⟩ := hB
    refine ⟨_, (pss_cons (ps_if (pt_cmpR op_gt (pe_dget (hu_of hr) (pv 0) pe_str (fun _ _ => rfl)) pe_int (nomark _))
          (pss_cons (ps_set (i := 2) sc__law_take.nd rfl (Or.inl rfl) (pe_op op_mod (pe_dget (hu_of hr) (pv 0) pe_str (fun _ _ => rfl)) (pv 1)))
          (pss_cons (ps_dput (hu_of hr) (pv 0) pe_str (pe_op op_fdiv (pe_dget (hu_of hr) (pv 0) pe_str (fun _ _ => rfl)) (pv 1)) rfl)
          (pss_one (ps_ret (pv 2))))) pss_nil)
      (pss_cons (ps_dput (hu_of hr) (pv 0) pe_str (pe_op op_add (pe_dget (hu_of hr) (pv 0) pe_str (fun _ _ => rfl)) pe_int) rfl)
      (pss_cons (ps_set (i := 3) sc__law_take.nd rfl (Or.inl rfl) (pe_op op_mod (pe_op op_pow (pe_op op_add (pe_dget (hu_of hr) (pv 0) pe_str (fun _ _ => rfl)) (pe_op op_mul pe_int (pe_dget (hu_of hr) (pv 0) pe_str (fun _ _ => rfl)))) pe_int) pe_int))
      (pss_cons (ps_set (i := 3) sc__law_take.nd rfl (Or.inl rfl) (pe_op op_mod (pe_op op_pow (pe_op op_add (pv 3) (pe_op op_mul pe_int (pe_dget (hu_of hr) (pv 0) pe_str (fun _ _ => rfl)))) pe_int) pe_int))
      (pss_one (ps_ret (pe_op op_mod (pe_op op_fdiv (pv 3) pe_int) (pv 1)))))))), ?_⟩
    refine ⟨_, rfl, b, _, rfl, dgs hb vl, _, _, rfl, rfl, _, rfl, ?_⟩
    refine ite2 (fun e => ?_) (fun e => ?_)
    · have e2 := of_decide_eq_true e
      refine ⟨_, rfl, b, _, rfl, dgs hb vl, _, rfl, _, _, rfl, rfl, hm0, ?_⟩
      refine ⟨_, rfl, b, _, rfl, dgs hb vl, _, rfl, _, _, rfl, rfl, ⟨hm0, by omega⟩, ?_⟩
      refine ⟨_, rfl, b, _, rfl, DPut.k (k := kl) hb (small1000 (by omega)), ?_⟩
      refine ⟨_, rfl, ?_⟩
      refine q _ _ (Int.emod_nonneg _ (by omega)) (Int.emod_lt_of_pos _ hm0) ⟨x / m, y, z, _, upd_same, ?_, ?_, ?_, ?_, ?_, hy0, hy1, hz0, by omega⟩ fun c hc => upd_ne hc
      · rw [putK_old vl]
        exact hl3
      · rw [valV_put, if_pos rfl]
      · rw [valV_put, if_neg (by decide)]
        exact vs
      · rw [valV_put, if_neg (by decide)]
        exact vt
      · exact Int.ediv_nonneg (by omega) (by omega)
    · refine ⟨_, rfl, b, _, rfl, dgs hb vt, _, _, rfl, rfl, ?_⟩
      refine ⟨_, rfl, b, _, rfl, DPut.k (k := kt) hb (small1000 (by omega)), ?_⟩
      have hb1 : (upd H b (.dK (putK kvs kt (.int (z + 1))))) b = some (.dK (putK kvs kt (.int (z + 1)))) := upd_same
      have vl1 : valV (putK kvs kt (.int (z + 1))) kl = some (.int x) := by rw [valV_put, if_neg (by decide)]; exact vl
      have vs1 : valV (putK kvs kt (.int (z + 1))) ks = some (.int y) := by rw [valV_put, if_neg (by decide)]; exact vs
      have vt1 : valV (putK kvs kt (.int (z + 1))) kt = some (.int (z + 1)) := by rw [valV_put, if_pos rfl]
      have hl1 : (putK kvs kt (.int (z + 1))).length = 3 := by rw [putK_old vt]; exact hl3
      generalize putK kvs kt (.int (z + 1)) = kv1 at *
      refine ⟨_, rfl, b, _, rfl, dgs hb1 vs1, _, rfl, b, _, rfl, dgs hb1 vt1, _, _, rfl, rfl, .inl ⟨by omega, by omega⟩, _, _, rfl, rfl, ?_⟩
      refine ⟨_, _, rfl, rfl, ⟨by decide, by decide, by omega⟩, _, _, rfl, rfl, (by show (0 : Int) < 2147483629; decide), ?_⟩
      generalize hA : (y + 7919 * (z + 1)) ^ (3 : Int).toNat % 2147483629 = A
      have a0 : 0 ≤ A := hA ▸ Int.emod_nonneg _ (by decide)
      have a1 : A < 2147483629 := hA ▸ Int.emod_lt_of_pos _ (by decide)
      clear hA
      refine ⟨_, rfl, _, rfl, b, _, rfl, dgs hb1 vt1, _, _, rfl, rfl, .inl ⟨by omega, by omega⟩, _, _, rfl, rfl, ?_⟩
      refine ⟨_, _, rfl, rfl, ⟨by decide, by decide, by omega⟩, _, _, rfl, rfl, (by show (0 : Int) < 2147483587; decide), ?_⟩
      refine ⟨_, rfl, _, _, rfl, rfl, ⟨by decide, by decide⟩, ?_⟩
      refine ⟨_, rfl, _, _, rfl, rfl, hm0, ?_⟩
      exact q _ _ (Int.emod_nonneg _ (by omega)) (Int.emod_lt_of_pos _ hm0) ⟨_, _, _, _, hb1, hl1, vl1, vs1, vt1, hx, hy0, hy1, by omega, by omega⟩ fun c hc => upd_ne hc
end
end K15
set_option maxHeartbeats 1000000
namespace K15
open PySem PySem.Spec PyProof.Rows L2 Gd Gx Ge
open C8 (clsBody Met pe_mt pe_mt0)
section
variable {P : Program} {w : World} {K : PySem.W.Frag} {mg : Str → Option Value} {base : Heap} {C CN fN CA fA : Addr}
theorem MAt.metX {m qual : Str} {st : Stmt} {N ps : List Str} {k : Nat} {sp : Sp} (M : MAt K C m qual st ps) (cl : Cls K C) (S : FnScope N ps (defScope st))
    (ar : ∀ vs H Q E, sp vs H Q E → vs.length = ps.length)
    (bd : ∀ (f : Addr) (cdv : Value) (A : Around) (outer : List Env) (s : Shared) (H : Hp) (vs : List V) (Q : VK) (E : XK), Room k (A.deeper (envOfC qual (defScope st) s.heap.objs.size f cdv)) → sp vs H Q E →
      ∃ t, PSs (cxOf (L2.CX P w) P w K mg base N qual (defScope st) f cdv A outer s H E) (defBody st) t ∧ t { nx := fun _ H' => Q .non H', rt := Q } (start N vs) H) : MetX P w K mg base (k + 1) C m sp := by
  obtain ⟨f, fd, F, me, b⟩ := M.ex
  exact ⟨f, fd, ps, cl, me, F.okX S ar (bd f), b⟩
/-- what the written part says of the two errors -/
structure ErrK (P : Program) (K : PySem.W.Frag) (mg : Str → Option Value) (CN fN CA fA : Addr) : Prop where
  e_NoMark : ErrTxt P K CN fN "NoMark.__init__" "this is no mark that stands"
  g_NoMark : mg "NoMark" = some (.ref CN)
  e_Alone : ErrTxt P K CA fA "Alone.__init__" "there is no other one"
  g_Alone : mg "Alone" = some (.ref CA)
def wholeD (d : PyData) (lo hi : Int) : Bool := match d with
  | .int n => decide (lo ≤ n) && decide (n ≤ hi)
  | _ => false
theorem d1Int {H : Hp} {v : V} {n : Int} (h : D1 K H v (.int n)) : v = .int n := by
  cases h with
  | dp h =>
    cases h
    rfl
def spWhole (K : PySem.W.Frag) : Sp := fun vs H Q _ => ∃ (v : V) (d : PyData) (lo hi : Int), vs = [v, .int lo, .int hi] ∧ D1 K H v d ∧ Q (.bl (wholeD d lo hi)) H
theorem chain_end {lo n hi : Int} {Q : VK} {H : Hp} (q : Q (.bl (wholeD (.int n) lo hi)) H) :
    (if decide (lo ≤ n) = true then Q (.bl (decide (n ≤ hi))) H else Q (.bl false) H) := by
  have e : wholeD (.int n) lo hi = (decide (lo ≤ n) && decide (n ≤ hi)) := rfl
  rw [e] at q
  by_cases hl : lo ≤ n
  · rw [decide_eq_true hl] at q ⊢
    exact iteT q
  · rw [decide_eq_false hl] at q ⊢
    exact iteF q
theorem ok_whole (T : Txt K mg) (D : DefAt K mg "is_whole" s_is_whole ["thing", "low", "high"]) : C8.Cal P w K mg base 1 "is_whole" (spWhole K) [] := by
  obtain ⟨f, fd, F, m, b⟩ := D.ex
  refine ⟨f, fd, _, [], F.ok sc_is_whole (fun vs H Q E h => ?_) (fun cdv A outer s H vs Q E hr h => ?_), m, F.kp, b, .nil⟩
  · obtain ⟨v, d, lo, hi, rfl, _⟩ := h
    rfl
  · obtain ⟨v, d, lo, hi, rfl, hd, q⟩ := h
    have ty := tyD hd
    refine ⟨_, (pss_one (ps_ret (pe_and (pe_callB call_isi (by rfl) T.b_isinstance boot_isinstance_ (pa_cons (pv 0) (pa_cons (pe_bltn (v := .ty "int") (by rfl) T.t_int boot_int_ rfl) pa_nil))) (pe_and (pe_not (pe_callB call_isi (by rfl) T.b_isinstance boot_isinstance_ (pa_cons (pv 0) (pa_cons (pe_bltn (v := .ty "bool") (by rfl) T.t_bool boot_bool_ rfl) pa_nil)))) (pe_one (pe_chain op_le op_le (pv 1) (pv 0) (pv 2))))))), ?_⟩
    refine ⟨_, rfl, v, .ty "int", _, .type "int", _, rfl, .ty _, ty, kInt d, _, rfl, ?_⟩
    cases d with
    | int n =>
      cases d1Int hd
      refine iteT ?_
      refine ⟨_, rfl, _, .ty "bool", _, .type "bool", _, rfl, .ty _, ty, kBool _, _, rfl, _, rfl, ?_⟩
      refine iteT ?_
      refine ⟨_, rfl, _, rfl, _, _, rfl, rfl, _, rfl, ?_⟩
      have z := chain_end (Q := Q) q
      split
      · rename_i hl
        rw [if_pos hl] at z
        exact ⟨_, rfl, _, _, rfl, rfl, z⟩
      · rename_i hl
        rw [if_neg hl] at z
        exact z
    | bool x =>
      refine iteT ?_
      refine ⟨_, rfl, _, .ty "bool", _, .type "bool", _, rfl, .ty _, ty, kBool _, _, rfl, _, rfl, ?_⟩
      exact iteF q
    | none => exact iteF q
    | str x => exact iteF q
    | list x => exact iteF q
    | tuple x => exact iteF q
    | dict x => exact iteF q

/-- no mark that stands -/
def Bad (d : PyData) (ms : List Nat) (gv : Nat) : Prop := wholeD d 0 ((gv : Int) - 1) = false ∨ ∃ k : Nat, d = .int (k : Nat) ∧ k < gv ∧ ∀ i : Nat, ms[i]? ≠ some k
def spBad (K : PySem.W.Frag) (CN C : Addr) : Sp := fun vs H Q E => ∃ (N : Addr → Prop) (o : Addr) (ms ls : List Nat) (gv ts : Nat) (v : V) (d : PyData), vs = [.ref o, v] ∧ OrdA N H o C ms ls gv ts ∧ D1 K H v d ∧ Bad d ms gv ∧ ∀ a, H a = none → E (.ref CN) (some a) (upd H a (.xd [("found", v)]))
theorem ok_needB (T : Txt K mg) (R : ErrK P K mg CN fN CA fA) (OC : OrdC K C) (c_is_whole : C8.Cal P w K mg base 1 "is_whole" (spWhole K) []) (M : MAt K C "_need_mark" "Order._need_mark" s_Order__need_mark ["self", "mark"]) : MetX P w K mg base 2 C "_need_mark" (spBad K CN C) := by
  refine M.metX OC.cl sc_Order__need_mark (fun vs H Q E h => ?_) (fun f cdv A outer s H vs Q E hr h => ?_)
  · obtain ⟨N, o, ms, ls, gv, ts, v, dt, rfl, _⟩ := h
    rfl
  · obtain ⟨N, o, ms, ls, gv, ts, v, dt, rfl, r, hd, bad, q⟩ := h
    obtain ⟨dx, m, d, fs, kvs, e1, l1, l2, l3, l4, nl, e2, e3, dc, lf, No, Nm, Nd⟩ := r.ex
    refine ⟨_, (pss_one (ps_if (PW.pt (pw_or (pt_not (pt_val (C8.pe_c c_is_whole hr (by decide) (by rfl) (pa_cons (pv 1) (pa_cons pe_int (pa_cons (pe_op op_sub (pe_fld (pv 0) rfl) pe_int) pa_nil)))))) (pw_or1 (pt_cmp (pc_dnotin (hu_of hr) (pv 1) (pe_fld (pv 0) rfl))))))
          (pss_one (ps_raiseE rfl R.e_NoMark R.g_NoMark hr (takes_of rfl rfl rfl rfl) (by exact (pa_cons (pv 1) pa_nil)) (by rfl))) pss_nil)), ?_⟩
    refine ⟨_, rfl, _, rfl, o, C, dx, fs, num gv, rfl, e1, OC.cl, OC.n_given, l3, _, _, rfl, rfl, ?_⟩
    refine ⟨v, dt, 0, (gv : Int) - 1, rfl, hd, _, rfl, ?_⟩
    rcases bad with bad | ⟨k, rfl, hk, hno⟩
    · rw [bad]
      exact iteT ⟨_, rfl, v, rfl, q⟩
    · cases d1Int hd
      have hw : wholeD (.int (k : Nat)) 0 ((gv : Int) - 1) = true := by
        have e : wholeD (.int (k : Nat)) 0 ((gv : Int) - 1) = (decide (0 ≤ ((k : Nat) : Int)) && decide (((k : Nat) : Int) ≤ (gv : Int) - 1)) := rfl
        rw [e, decide_eq_true (by omega), decide_eq_true (by omega)]
        rfl
      rw [hw]
      refine iteF ?_
      refine ⟨_, rfl, _, rfl, o, C, dx, fs, .ref d, rfl, e1, OC.cl, OC.n_labels, l2, d, _, rfl, DGet.k (k := Sum.inl (k : Int)) e3, _, rfl, ?_⟩
      rw [dc.no k hno]
      exact iteT ⟨_, rfl, _, rfl, q⟩
theorem ok_behindB (T : Txt K mg) (OC : OrdC K C) (x_need : MetX P w K mg base 2 C "_need_mark" (spBad K CN C)) (m_many : Met P w K mg base 1 C "many" (spMany C) []) (m__label_at : Met P w K mg base 2 C "_label_at" (spLabAt C) []) (m__label_anew : Met P w K mg base 2 C "_label_anew" (spAnew C) [])
    (M : MAt K C "behind" "Order.behind" s_Order_behind ["self", "mark"]) : MetX P w K mg base 3 C "behind" (spBad K CN C) := by
  refine M.metX OC.cl sc_Order_behind (fun vs H Q E h => ?_) (fun f cdv A outer s H vs Q E hr h => ?_)
  · obtain ⟨N, o, ms, ls, gv, ts, v, dt, rfl, _⟩ := h
    rfl
  · obtain ⟨N, o, ms, ls, gv, ts, v, dt, rfl, r, hd, bad, q⟩ := h
    obtain ⟨dx, fs, e1, nl⟩ := r.ins
    refine ⟨_, (pss_cons (ps_expr (pe_mtX x_need hr (by decide) (takes_of rfl rfl rfl rfl) (pv 0) (pa_cons (pv 1) pa_nil)))
      (pss_cons (ps_if (pt_cmpR op_ge (pe_mt0 m_many hr (by decide) (pv 0)) (pe_gi rfl T.g_MOST_MARKS) (nomark _))
          (pss_one ps_never) pss_nil)
      (pss_cons (ps_set (i := 2) sc_Order_behind.nd rfl (Or.inl rfl) (pe_bm PySem.F.plainAttrs_list PySem.F.slot_list_index PySem.F.type_list_index mt_index (pe_fld (pv 0) rfl) (pa_cons (pv 1) pa_nil)))
      (pss_cons (ps_if (pt_cmpR op_lt (pe_op op_sub (pe_mt m__label_at hr (by decide) (pv 0) (pa_cons (pe_op op_add (pv 2) pe_int) pa_nil)) (pe_mt m__label_at hr (by decide) (pv 0) (pa_cons (pv 2) pa_nil))) pe_int (nomark _))
          (pss_one (ps_expr (pe_mt0 m__label_anew hr (by decide) (pv 0)))) pss_nil)
      (pss_cons (ps_set (i := 3) sc_Order_behind.nd rfl (Or.inl rfl) (pe_fld (pv 0) rfl))
      (pss_cons (ps_fldaug (pv 0) pe_int in_add)
      (pss_cons (ps_dput (hu_of hr) (pe_fld (pv 0) rfl) (pv 3) (pe_op op_fdiv (pe_op op_add (pe_mt m__label_at hr (by decide) (pv 0) (pa_cons (pv 2) pa_nil)) (pe_mt m__label_at hr (by decide) (pv 0) (pa_cons (pe_op op_add (pv 2) pe_int) pa_nil))) pe_int) rfl)
      (pss_cons (ps_expr (pe_bm PySem.F.plainAttrs_list PySem.F.slot_list_insert PySem.F.type_list_insert mt_insert (pe_fld (pv 0) rfl) (pa_cons (pe_op op_add (pv 2) pe_int) (pa_cons (pv 3) pa_nil))))
      (pss_one (ps_ret (pv 3))))))))))), ?_⟩
    exact ⟨_, rfl, o, dx, fs, rfl, e1, nl _ (by decide), _, rfl, N, o, ms, ls, gv, ts, v, dt, rfl, r, hd, bad, q⟩
theorem ok_labelB (T : Txt K mg) (OC : OrdC K C) (x_need : MetX P w K mg base 2 C "_need_mark" (spBad K CN C)) (M : MAt K C "label" "Order.label" s_Order_label ["self", "mark"]) : MetX P w K mg base 3 C "label" (spBad K CN C) := by
  refine M.metX OC.cl sc_Order_label (fun vs H Q E h => ?_) (fun f cdv A outer s H vs Q E hr h => ?_)
  · obtain ⟨N, o, ms, ls, gv, ts, v, dt, rfl, _⟩ := h
    rfl
  · obtain ⟨N, o, ms, ls, gv, ts, v, dt, rfl, r, hd, bad, q⟩ := h
    obtain ⟨dx, fs, e1, nl⟩ := r.ins
    refine ⟨_, (pss_cons (ps_expr (pe_mtX x_need hr (by decide) (takes_of rfl rfl rfl rfl) (pv 0) (pa_cons (pv 1) pa_nil)))
      (pss_one (ps_ret (pe_dget (hu_of hr) (pe_fld (pv 0) rfl) (pv 1) (fun _ _ => rfl))))), ?_⟩
    exact ⟨_, rfl, o, dx, fs, rfl, e1, nl _ (by decide), _, rfl, N, o, ms, ls, gv, ts, v, dt, rfl, r, hd, bad, q⟩
theorem ok_dropB (T : Txt K mg) (OC : OrdC K C) (x_need : MetX P w K mg base 2 C "_need_mark" (spBad K CN C)) (m_many : Met P w K mg base 1 C "many" (spMany C) []) (M : MAt K C "drop" "Order.drop" s_Order_drop ["self", "mark"]) : MetX P w K mg base 3 C "drop" (spBad K CN C) := by
  refine M.metX OC.cl sc_Order_drop (fun vs H Q E h => ?_) (fun f cdv A outer s H vs Q E hr h => ?_)
  · obtain ⟨N, o, ms, ls, gv, ts, v, dt, rfl, _⟩ := h
    rfl
  · obtain ⟨N, o, ms, ls, gv, ts, v, dt, rfl, r, hd, bad, q⟩ := h
    obtain ⟨dx, fs, e1, nl⟩ := r.ins
    refine ⟨_, (pss_cons (ps_expr (pe_mtX x_need hr (by decide) (takes_of rfl rfl rfl rfl) (pv 0) (pa_cons (pv 1) pa_nil)))
      (pss_cons (ps_if (pt_cmpR op_eq (pe_mt0 m_many hr (by decide) (pv 0)) pe_int (nomark _))
          (pss_one ps_never) pss_nil)
      (pss_cons (ps_expr (pe_bm PySem.F.plainAttrs_list PySem.F.slot_list_remove PySem.F.type_list_remove mt_remove (pe_fld (pv 0) rfl) (pa_cons (pv 1) pa_nil)))
      (pss_one (ps_ddel (pe_fld (pv 0) rfl) (pv 1)))))), ?_⟩
    exact ⟨_, rfl, o, dx, fs, rfl, e1, nl _ (by decide), _, rfl, N, o, ms, ls, gv, ts, v, dt, rfl, r, hd, bad, q⟩
/-- the last one is not dropped -/
def spLast (CA C : Addr) : Sp := fun vs H Q E => ∃ (N : Addr → Prop) (o : Addr) (ms ls : List Nat) (gv ts i k : Nat), vs = [.ref o, num k] ∧ OrdA N H o C ms ls gv ts ∧ ms[i]? = some k ∧ ms.length = 1 ∧ ∀ a, H a = none → E (.ref CA) (some a) (upd H a (.xd [("found", num k)]))
theorem ok_dropA (T : Txt K mg) (R : ErrK P K mg CN fN CA fA) (OC : OrdC K C) (m_many : Met P w K mg base 1 C "many" (spMany C) []) (m__need_mark : Met P w K mg base 2 C "_need_mark" (spNeed C) []) (M : MAt K C "drop" "Order.drop" s_Order_drop ["self", "mark"]) : MetX P w K mg base 3 C "drop" (spLast CA C) := by
  refine M.metX OC.cl sc_Order_drop (fun vs H Q E h => ?_) (fun f cdv A outer s H vs Q E hr h => ?_)
  · obtain ⟨N, o, ms, ls, gv, ts, i, k, rfl, _⟩ := h
    rfl
  · obtain ⟨N, o, ms, ls, gv, ts, i, k, rfl, r, hk, h1, q⟩ := h
    obtain ⟨dx, fs, e1, nl⟩ := r.ins
    refine ⟨_, (pss_cons (ps_expr (pe_mt m__need_mark hr (by decide) (pv 0) (pa_cons (pv 1) pa_nil)))
      (pss_cons (ps_if (pt_cmpR op_eq (pe_mt0 m_many hr (by decide) (pv 0)) pe_int (nomark _))
          (pss_one (ps_raiseE rfl R.e_Alone R.g_Alone hr (takes_of rfl rfl rfl rfl) (by exact (pa_cons (pv 1) pa_nil)) (by rfl))) pss_nil)
      (pss_cons (ps_expr (pe_bm PySem.F.plainAttrs_list PySem.F.slot_list_remove PySem.F.type_list_remove mt_remove (pe_fld (pv 0) rfl) (pa_cons (pv 1) pa_nil)))
      (pss_one (ps_ddel (pe_fld (pv 0) rfl) (pv 1)))))), ?_⟩
    refine ⟨_, rfl, o, dx, fs, rfl, e1, nl _ (by decide), _, rfl, N, o, ms, ls, gv, ts, i, k, rfl, r, hk, ?_⟩
    refine ⟨_, rfl, o, dx, fs, rfl, e1, nl _ (by decide), N, o, ms, ls, gv, ts, rfl, r, rfl, _, rfl, ?_⟩
    rw [h1, show decide (num 1 = V.int 1) = true from by decide]
    exact iteT ⟨_, rfl, _, rfl, q⟩
def spAheadB (K : PySem.W.Frag) (CN C : Addr) : Sp := fun vs H Q E => ∃ (N : Addr → Prop) (o : Addr) (ms ls : List Nat) (gv ts : Nat) (v u : V) (d : PyData), vs = [.ref o, v, u] ∧ OrdA N H o C ms ls gv ts ∧ D1 K H v d ∧ Bad d ms gv ∧ ∀ a, H a = none → E (.ref CN) (some a) (upd H a (.xd [("found", v)]))
theorem ok_aheadB (T : Txt K mg) (OC : OrdC K C) (x_label : MetX P w K mg base 3 C "label" (spBad K CN C)) (M : MAt K C "ahead" "Order.ahead" s_Order_ahead ["self", "one", "other"]) : MetX P w K mg base 4 C "ahead" (spAheadB K CN C) := by
  refine M.metX OC.cl sc_Order_ahead (fun vs H Q E h => ?_) (fun f cdv A outer s H vs Q E hr h => ?_)
  · obtain ⟨N, o, ms, ls, gv, ts, v, u, dt, rfl, _⟩ := h
    rfl
  · obtain ⟨N, o, ms, ls, gv, ts, v, u, dt, rfl, r, hd, bad, q⟩ := h
    obtain ⟨dx, fs, e1, nl⟩ := r.ins
    refine ⟨_, (pss_one (ps_ret (pe_cmpR op_lt (pe_mtX x_label hr (by decide) (takes_of rfl rfl rfl rfl) (pv 0) (pa_cons (pv 1) pa_nil)) (pe_mtX x_label hr (by decide) (takes_of rfl rfl rfl rfl) (pv 0) (pa_cons (pv 2) pa_nil)) (nomark _)))), ?_⟩
    exact ⟨_, rfl, o, dx, fs, rfl, e1, nl _ (by decide), _, rfl, N, o, ms, ls, gv, ts, v, dt, rfl, r, hd, bad, q⟩
def spAhead2 (K : PySem.W.Frag) (CN C : Addr) : Sp := fun vs H Q E => ∃ (N : Addr → Prop) (o : Addr) (ms ls : List Nat) (gv ts i k : Nat) (v : V) (d : PyData), vs = [.ref o, num k, v] ∧ OrdA N H o C ms ls gv ts ∧ ms[i]? = some k ∧ D1 K H v d ∧ Bad d ms gv ∧ ∀ a, H a = none → E (.ref CN) (some a) (upd H a (.xd [("found", v)]))
theorem ok_ahead2 (T : Txt K mg) (OC : OrdC K C) (m_label : Met P w K mg base 3 C "label" (spLabel C) []) (x_label : MetX P w K mg base 3 C "label" (spBad K CN C)) (M : MAt K C "ahead" "Order.ahead" s_Order_ahead ["self", "one", "other"]) : MetX P w K mg base 4 C "ahead" (spAhead2 K CN C) := by
  refine M.metX OC.cl sc_Order_ahead (fun vs H Q E h => ?_) (fun f cdv A outer s H vs Q E hr h => ?_)
  · obtain ⟨N, o, ms, ls, gv, ts, i, k, v, dt, rfl, _⟩ := h
    rfl
  · obtain ⟨N, o, ms, ls, gv, ts, i, k, v, dt, rfl, r, hk, hd, bad, q⟩ := h
    obtain ⟨dx, fs, e1, nl⟩ := r.ins
    obtain ⟨l, hl⟩ := lab_of r.ok hk
    refine ⟨_, (pss_one (ps_ret (pe_cmpR op_lt (pe_mt m_label hr (by decide) (pv 0) (pa_cons (pv 1) pa_nil)) (pe_mtX x_label hr (by decide) (takes_of rfl rfl rfl rfl) (pv 0) (pa_cons (pv 2) pa_nil)) (nomark _)))), ?_⟩
    refine ⟨_, rfl, o, dx, fs, rfl, e1, nl _ (by decide), _, rfl, N, o, ms, ls, gv, ts, i, k, l, rfl, r, hk, hl, ?_⟩
    exact ⟨_, rfl, o, dx, fs, rfl, e1, nl _ (by decide), _, rfl, N, o, ms, ls, gv, ts, v, dt, rfl, r, hd, bad, q⟩
end
end K15
set_option maxHeartbeats 1000000
namespace K15
open PySem PySem.Spec PyProof.Rows L2 Gd Gx
open C8 (clsBody Met pe_mt pe_mt0)
section
variable {P : Program} {w : World} {K : PySem.W.Frag} {mg : Str → Option Value} {base : Heap} {C CT fT : Addr}
/-- what the written part says of TooMany -/
structure ErrT (P : Program) (K : PySem.W.Frag) (mg : Str → Option Value) (CT fT : Addr) : Prop where
  e_TooMany : Gc.ErrTxt P K CT fT "TooMany.__init__" "there would be too many"
  g_TooMany : mg "TooMany" = some (.ref CT)
  m_TooMany : PySem.W.exmOne K (.ref CT) (.ref CT) = some true
def spFull (CT C : Addr) : Sp := fun vs H Q E => ∃ (N : Addr → Prop) (o : Addr) (ms ls : List Nat) (gv ts i k : Nat), vs = [.ref o, num k] ∧ OrdA N H o C ms ls gv ts ∧ ms[i]? = some k ∧ ms.length = 200 ∧ ∀ a, H a = none → E (.ref CT) (some a) (upd H a (.xd [("count", .int 201)]))
theorem ok_full (T : Txt K mg) (R : ErrT P K mg CT fT) (OC : OrdC K C) (m_many : Met P w K mg base 1 C "many" (spMany C) []) (m__need_mark : Met P w K mg base 2 C "_need_mark" (spNeed C) []) (m__label_at : Met P w K mg base 2 C "_label_at" (spLabAt C) []) (m__label_anew : Met P w K mg base 2 C "_label_anew" (spAnew C) [])
    (M : MAt K C "behind" "Order.behind" s_Order_behind ["self", "mark"]) : MetX P w K mg base 4 C "behind" (spFull CT C) := by
  refine M.metX OC.cl sc_Order_behind (fun vs H Q E h => ?_) (fun f cdv A outer s H vs Q E hr h => ?_)
  · obtain ⟨N, o, ms, ls, gv, ts, i, k, rfl, _⟩ := h
    rfl
  · obtain ⟨N, o, ms, ls, gv, ts, i, k, rfl, r, hk, hf, q⟩ := h
    obtain ⟨dx, fs, e1, nl⟩ := r.ins
    refine ⟨_, (pss_cons (ps_expr (pe_mt m__need_mark hr (by decide) (pv 0) (pa_cons (pv 1) pa_nil)))
      (pss_cons (ps_if (pt_cmpR op_ge (pe_mt0 m_many hr (by decide) (pv 0)) (pe_gi rfl T.g_MOST_MARKS) (nomark _))
          (pss_one (Gc.ps_raiseE rfl R.e_TooMany R.g_TooMany hr (takes_of rfl rfl rfl rfl) (by exact (pa_cons (pe_op op_add (pe_mt0 m_many hr (by decide) (pv 0)) pe_int) pa_nil)) (by rfl))) pss_nil)
      (pss_cons (ps_set (i := 2) sc_Order_behind.nd rfl (Or.inl rfl) (pe_bm PySem.F.plainAttrs_list PySem.F.slot_list_index PySem.F.type_list_index mt_index (pe_fld (pv 0) rfl) (pa_cons (pv 1) pa_nil)))
      (pss_cons (ps_if (pt_cmpR op_lt (pe_op op_sub (pe_mt m__label_at hr (by decide) (pv 0) (pa_cons (pe_op op_add (pv 2) pe_int) pa_nil)) (pe_mt m__label_at hr (by decide) (pv 0) (pa_cons (pv 2) pa_nil))) pe_int (nomark _))
          (pss_one (ps_expr (pe_mt0 m__label_anew hr (by decide) (pv 0)))) pss_nil)
      (pss_cons (ps_set (i := 3) sc_Order_behind.nd rfl (Or.inl rfl) (pe_fld (pv 0) rfl))
      (pss_cons (ps_fldaug (pv 0) pe_int in_add)
      (pss_cons (ps_dput (hu_of hr) (pe_fld (pv 0) rfl) (pv 3) (pe_op op_fdiv (pe_op op_add (pe_mt m__label_at hr (by decide) (pv 0) (pa_cons (pv 2) pa_nil)) (pe_mt m__label_at hr (by decide) (pv 0) (pa_cons (pe_op op_add (pv 2) pe_int) pa_nil))) pe_int) rfl)
      (pss_cons (ps_expr (pe_bm PySem.F.plainAttrs_list PySem.F.slot_list_insert PySem.F.type_list_insert mt_insert (pe_fld (pv 0) rfl) (pa_cons (pe_op op_add (pv 2) pe_int) (pa_cons (pv 3) pa_nil))))
      (pss_one (ps_ret (pv 3))))))))))), ?_⟩
    refine ⟨_, rfl, o, dx, fs, rfl, e1, nl _ (by decide), _, rfl, N, o, ms, ls, gv, ts, i, k, rfl, r, hk, ?_⟩
    refine ⟨_, rfl, o, dx, fs, rfl, e1, nl _ (by decide), N, o, ms, ls, gv, ts, rfl, r, _, _, rfl, rfl, _, rfl, ?_⟩
    rw [hf, show decide ((200 : Int) ≤ ((200 : Nat) : Int)) = true from by decide]
    refine iteT ⟨_, rfl, o, dx, fs, rfl, e1, nl _ (by decide), N, o, ms, ls, gv, ts, rfl, r, _, _, rfl, rfl, .int 201, ?_, q⟩
    rw [hf]
    rfl
def spTimes (C : Addr) : Sp := fun vs H Q _ => ∃ (N : Addr → Prop) (o : Addr) (ms ls : List Nat) (gv ts : Nat), vs = [.ref o] ∧ OrdA N H o C ms ls gv ts ∧ Q (num ts) H
theorem ok_times (T : Txt K mg) (OC : OrdC K C) (M : MAt K C "anew" "Order.anew" s_Order_anew ["self"]) : Met P w K mg base 1 C "anew" (spTimes C) [] := by
  refine M.met OC.cl sc_Order_anew (fun vs H Q E h => ?_) (fun f cdv A outer s H vs Q E hr h => ?_)
  · obtain ⟨N, o, ms, ls, gv, ts, rfl, _⟩ := h
    rfl
  · obtain ⟨N, o, ms, ls, gv, ts, rfl, r, q⟩ := h
    obtain ⟨dx, m, d, fs, kvs, e1, l1, l2, l3, l4, nl, e2, e3, dc, lf, No, Nm, Nd⟩ := r.ex
    refine ⟨_, (pss_one (ps_ret (pe_fld (pv 0) rfl))), ?_⟩
    exact ⟨_, rfl, o, C, dx, fs, num ts, rfl, e1, OC.cl, OC.n_times, l4, q⟩
end
end K15
/-! One thing compared with itself: objects of own classes, lists of anything. -/
namespace Gx
open PySem PySem.Spec PyProof.Rows L2 Gd
/-- what the written part says of a class without an order of its own -/
structure CmpC (K : PySem.W.Frag) (C : Addr) : Prop where
  ex : ∃ (nm q : Str) (N : Addr) (bs : List Value) (hd : Bool) (sn : List Str) (sub : List Value) (ab : Bool) (col : Option Bool) (dd : Option Addr) (k0 k1 k2 k3 k5 : Option Value) (ni : String),
    K.lookup C = some (excClassObj nm q C N bs [.type "object"] hd sn sub ab col dd k0 k1 k2 k3 k5 ni) ∧ PySem.W.nsOkIn K N = true ∧ PySem.W.nsIn K N "__eq__" = some none ∧ PySem.W.nsIn K N "__ne__" = some none
section
variable {X : Cx} {C : Addr}
theorem CmpC.inst {pins : List (Addr × Obj)} {σ : L2.St} {H : Hp} {s : Shared} {a dx : Addr} {fs : List (Str × V)} (c : CmpC X.K C) (I : Inv X pins σ H s) (e : H a = some (.ins C dx fs)) : s.heap.CmpInst a C [.type "object"] := by
  obtain ⟨nm, q, N, bs, hd, sn, sub, ab, col, dd, k0, k1, k2, k3, k5, ni, hC, ok, he, hn⟩ := c.ex
  obtain ⟨mA, O, _⟩ := ins_get I.hok e
  obtain ⟨od, J, _⟩ := O.look
  exact ⟨_, nm, q, N, bs, hd, sn, sub, ab, col, dd, k0, k1, k2, k3, k5, ni, _, J.at_, J.cls, I.kIn _ _ hC, .of_isNs (PySem.W.isNs_of_in I.kIn ok), PySem.W.nsMap_none_of_in I.kIn ok he, PySem.W.nsMap_none_of_in I.kIn ok hn⟩
def rOr (r1 r2 : R2) : R2 := fun x y H Q => r1 x y H Q ∨ r2 x y H Q
theorem op_or {f : Value → Value → Sem Value} {r1 r2 : R2} (a : OpR X f r1) (b : OpR X f r2) : OpR X f (rOr r1 r2) := by
  intro pins s σ H x y v u Q I rx ry h
  exact h.elim (a pins s σ H x y v u Q I rx ry) (b pins s σ H x y v u Q I rx ry)
/-- an object of an own class, not unlike itself -/
def rNeI (C : Addr) : R2 := fun x y H Q => ∃ (a dx : Addr) (fs : List (Str × V)), x = .ref a ∧ y = .ref a ∧ H a = some (.ins C dx fs) ∧ Q (.bl false) H
theorem op_neI (c : CmpC X.K C) (hu : X.A.units + 1 < cLine) : OpR X (compareOp .NotEq) (rNeI C) := by
  intro pins s σ H x y v u Q I rx ry h
  obtain ⟨a, dx, fs, rfl, rfl, e, q⟩ := h
  obtain rfl : v = Value.ref a := rx
  obtain rfl : u = Value.ref a := ry
  have ci := c.inst I e
  obtain ⟨hp, g, d, t, os⟩ := s
  exact compareOp_ne_same PySem.F.cmp_object ci hu ⟨.bl false, H, I, rfl, q⟩
/-- a list of anything, not unlike itself -/
def rNeL : R2 := fun x y H Q => ∃ (a : Addr) (xs : List V), x = .ref a ∧ y = .ref a ∧ H a = some (.lst xs) ∧ Q (.bl false) H
theorem op_neL (hu : X.A.units < cLine) : OpR X (compareOp .NotEq) rNeL := by
  intro pins s σ H x y v u Q I rx ry h
  obtain ⟨a, xs, rfl, rfl, e, q⟩ := h
  obtain rfl : v = Value.ref a := rx
  obtain rfl : u = Value.ref a := ry
  obtain ⟨_, its, n, _, h1⟩ := (show ObjOk X.prog X.w H s.heap a (.lst xs) from I.hok a _ e)
  have l : s.heap.IsList a its.toArray := ⟨_, h1, rfl, _, rfl⟩
  have r := SeqAt.RcNeAt.lists (A := X.A) (e := fun _ => true) l l rfl hu fun j _ _ => SeqAt.EqAt.same _
  have z : (!((List.range its.toArray.size).all fun _ => true)) = false := by simp
  rw [z] at r
  exact r X.prog X.w _ _ ⟨.bl false, H, I, rfl, q⟩
/-- one thing compared with itself, whatever it is -/
def rNeS (K : PySem.W.Frag) (C : Addr) : R2 := rOr rNe (rOr (rNeD K) (rOr rNeDA (rOr rNeL (rNeI C))))
theorem op_neS (c : CmpC X.K C) (hu : X.A.units + 64 < cLine) : OpR X (compareOp .NotEq) (rNeS X.K C) :=
  op_or op_ne (op_or (op_neD hu) (op_or (op_ne_dictA (by omega)) (op_or (op_neL (by omega)) (op_neI c (by omega)))))
end
end Gx
set_option maxHeartbeats 1000000
namespace K15
open PySem PySem.Spec PyProof.Rows L2 Gd Gx Ge
open C8 (clsBody Met pe_mt pe_mt0)
/-- what the written part says of the class of an odd thing -/
structure IsT (K : PySem.W.Frag) (C : Addr) : Prop where
  cl : Cls K C
  ha : PySem.W.findIn K (.ref C) "__class__" = some (some (.builtin "object.__class__"))
  hn : PySem.W.specialIn K (.builtin "object.__class__") "__get__" = some (some (.builtin "getset_descriptor.__get__"))
  ht : PySem.W.takesIn K (.builtin "object.__class__") = some true
  hm : PySem.W.mroIn K C (.type "object") = some true
  ki : PySem.W.kitOne K (.ref C) (.type "int") = some false
  kb : PySem.W.kitOne K (.ref C) (.type "bool") = some false
/-- no mark that stands -/
def kMark : Key := Sum.inr "mark"
def noM (ms : List Nat) (i : Int) : Prop := ∀ k : Nat, i = k → ∀ j : Nat, ms[j]? ≠ some k
inductive Odd (C : Addr) (H : Hp) (ms : List Nat) : V → Prop
  | int (i : Int) (h : noM ms i) : Odd C H ms (.int i)
  | bl (b : Bool) : Odd C H ms (.bl b)
  | non : Odd C H ms .non
  | str (z : Str) : Odd C H ms (.str z)
  | lst {a : Addr} {xs : List V} (e : H a = some (.lst xs)) : Odd C H ms (.ref a)
  | tup {a : Addr} (e : H a = some (.tup [.int 0])) : Odd C H ms (.ref a)
  | dK {a : Addr} (e : H a = some (.dK [])) : Odd C H ms (.ref a)
  | dM {a : Addr} (e : H a = some (.dK (mergeK [] [(kMark, .int 0)]))) : Odd C H ms (.ref a)
  | ins {a dx : Addr} {fs : List (Str × V)} (e : H a = some (.ins C dx fs)) : Odd C H ms (.ref a)
theorem Odd.same {C : Addr} {H H' : Hp} {ms : List Nat} {x : V} (h : Odd C H ms x) (s : Same H H') : Odd C H' ms x := by
  cases h with
  | int i h => exact .int i h
  | bl b => exact .bl b
  | non => exact .non
  | str z => exact .str z
  | lst e => exact .lst (s _ _ e)
  | tup e => exact .tup (s _ _ e)
  | dK e => exact .dK (s _ _ e)
  | dM e => exact .dM (s _ _ e)
  | ins e => exact .ins (s _ _ e)
theorem Odd.ty {K : PySem.W.Frag} {C : Addr} {H : Hp} {ms : List Nat} {x : V} (IT : IsT K C) (h : Odd C H ms x) : ∃ (t : Value) (bi bb : Bool), TyX K H x t ∧ PySem.W.kitOne K t (.type "int") = some bi ∧ PySem.W.kitOne K t (.type "bool") = some bb ∧
    (bi = false ∨ (bi = true ∧ bb = true) ∨ (bi = true ∧ bb = false ∧ ∃ i, x = .int i ∧ noM ms i)) := by
  cases h with
  | int i h => exact ⟨_, _, _, tyD (.dp (.int i)), kInt (.int i), kBool (.int i), .inr (.inr ⟨rfl, rfl, i, rfl, h⟩)⟩
  | bl b => exact ⟨_, _, _, tyD (.dp (.bl b)), kInt (.bool b), kBool (.bool b), .inr (.inl ⟨rfl, rfl⟩)⟩
  | non => exact ⟨_, _, _, tyD (.dp .non), kInt .none, kBool .none, .inl rfl⟩
  | str z => exact ⟨_, _, _, tyD (.dp (.str z)), kInt (.str z), kBool (.str z), .inl rfl⟩
  | lst e => exact ⟨_, _, _, tyL (SqL.of e), kInt (.list []), kBool (.list []), .inl rfl⟩
  | tup e => exact ⟨_, _, _, tyT (SqT.of e), kInt (.tuple []), kBool (.tuple []), .inl rfl⟩
  | dK e => exact ⟨_, _, _, .base (.dK e), kInt (.dict []), kBool (.dict []), .inl rfl⟩
  | dM e => exact ⟨_, _, _, .base (.dK e), kInt (.dict []), kBool (.dict []), .inl rfl⟩
  | ins e => exact ⟨_, _, _, .base (.ins e IT.cl IT.ha IT.hn IT.ht IT.hm), IT.ki, IT.kb, .inl rfl⟩
theorem sh_t0 : SeqAt.shaped (.tuple [.int 0]) = true := by
  unfold SeqAt.shaped
  simp [PyData.canLay0, PyData.canLayAll0, PyData.depth, PyData.depthAll]
theorem Odd.se {K : PySem.W.Frag} {C : Addr} {H : Hp} {ms : List Nat} {x : V} (h : Odd C H ms x) {Q : VK} (q : Q (.bl false) H) : rNeS K C x x H Q := by
  cases h with
  | int i h => exact .inl ⟨by simp [scal], by rw [decide_eq_true rfl]; exact q⟩
  | bl b => exact .inl ⟨by simp [scal], by rw [decide_eq_true rfl]; exact q⟩
  | non => exact .inl ⟨by simp [scal], by rw [decide_eq_true rfl]; exact q⟩
  | str z => exact .inl ⟨by simp [scal], by rw [decide_eq_true rfl]; exact q⟩
  | @lst a xs e => exact .inr (.inr (.inr (.inl ⟨a, xs, rfl, rfl, e, q⟩)))
  | @tup a e => exact .inr (.inl ⟨_, _, .tup (SqT.of e) (.cons (.int 0) .nil), .tup (SqT.of e) (.cons (.int 0) .nil), sh_t0, sh_t0, by rw [PySem.SeqAt.eqv_refl _ (by simp [PyData.canLay0, PyData.canLayAll0])]; exact q⟩)
  | @dK a e => exact .inr (.inr (.inl ⟨a, a, [], [], rfl, rfl, e, e, rfl, (fun p hp => by cases hp), q⟩))
  | @dM a e => exact .inr (.inr (.inl ⟨a, a, _, _, rfl, rfl, e, e, rfl, (fun p hp => by
      have : p = (kMark, .int 0) := List.mem_singleton.mp hp
      subst this
      exact ⟨rfl, rfl⟩), q⟩))
  | @ins a dx fs e => exact .inr (.inr (.inr (.inr ⟨a, dx, fs, rfl, rfl, e, q⟩)))
section
variable {P : Program} {w : World} {K : PySem.W.Frag} {mg : Str → Option Value} {base : Heap} {C CN fN CM fM : Addr}
/-- what the written part says of the two errors -/
structure ErrN (P : Program) (K : PySem.W.Frag) (mg : Str → Option Value) (CN fN CM fM : Addr) : Prop where
  e_NoMark : ErrTxt P K CN fN "NoMark.__init__" "this is no mark that stands"
  g_NoMark : mg "NoMark" = some (.ref CN)
  e_TooMany : Gc.ErrTxt P K CM fM "TooMany.__init__" "there would be too many"
  g_TooMany : mg "TooMany" = some (.ref CM)
theorem OrdA.same {N : Addr → Prop} {H H' : Hp} {o C : Addr} {ms ls : List Nat} {gv ts : Nat} (r : OrdA N H o C ms ls gv ts) (s : Same H H') : OrdA N H' o C ms ls gv ts := r.kp fun c u _ z => s c u z
def spWhX (C : Addr) : Sp := fun vs H Q _ => ∃ (v : V) (ms : List Nat) (hi : Int), vs = [v, .int 0, .int hi] ∧ Odd C H ms v ∧ (∀ b : Bool, (b = true → ∃ k : Nat, v = num k ∧ ∀ j : Nat, ms[j]? ≠ some k) → Q (.bl b) H)
theorem ok_whX (T : Txt K mg) (IT : IsT K C) (D : DefAt K mg "is_whole" s_is_whole ["thing", "low", "high"]) : C8.Cal P w K mg base 1 "is_whole" (spWhX C) [] := by
  obtain ⟨f, fd, F, m, b⟩ := D.ex
  refine ⟨f, fd, _, [], F.ok sc_is_whole (fun vs H Q E h => ?_) (fun cdv A outer s H vs Q E hr h => ?_), m, F.kp, b, .nil⟩
  · obtain ⟨v, ms, hi, rfl, _⟩ := h
    rfl
  · obtain ⟨v, ms, hi, rfl, od, q⟩ := h
    obtain ⟨t, bi, bb, ty, k1, k2, cs⟩ := od.ty IT
    refine ⟨_, (pss_one (ps_ret (pe_and (pe_callB call_isi (by rfl) T.b_isinstance boot_isinstance_ (pa_cons (pv 0) (pa_cons (pe_bltn (v := .ty "int") (by rfl) T.t_int boot_int_ rfl) pa_nil))) (pe_and (pe_not (pe_callB call_isi (by rfl) T.b_isinstance boot_isinstance_ (pa_cons (pv 0) (pa_cons (pe_bltn (v := .ty "bool") (by rfl) T.t_bool boot_bool_ rfl) pa_nil)))) (pe_one (pe_chain op_le op_le (pv 1) (pv 0) (pv 2))))))), ?_⟩
    refine ⟨_, rfl, v, .ty "int", _, .type "int", _, rfl, .ty _, ty, k1, _, rfl, ?_⟩
    rcases cs with rfl | ⟨rfl, rfl⟩ | ⟨rfl, rfl, i, rfl, hno⟩
    · exact iteF (q _ fun z => by cases z)
    · refine iteT ?_
      refine ⟨_, rfl, _, .ty "bool", _, .type "bool", _, rfl, .ty _, ty, k2, _, rfl, _, rfl, ?_⟩
      exact iteF (q _ fun z => by cases z)
    · refine iteT ?_
      refine ⟨_, rfl, _, .ty "bool", _, .type "bool", _, rfl, .ty _, ty, k2, _, rfl, _, rfl, ?_⟩
      refine iteT ?_
      refine ⟨_, rfl, _, rfl, _, _, rfl, rfl, _, rfl, ?_⟩
      refine ite2 (fun hl => ?_) (fun hl => q _ fun z => by cases z)
      have h0 := of_decide_eq_true hl
      refine ⟨_, rfl, _, _, rfl, rfl, q _ fun _ => ⟨i.toNat, ?_, hno i.toNat (by omega)⟩⟩
      show V.int i = V.int _
      congr 1
      omega
def spBadX (CN C : Addr) : Sp := fun vs H Q E => ∃ (N : Addr → Prop) (o : Addr) (ms ls : List Nat) (gv ts : Nat) (v : V), vs = [.ref o, v] ∧ OrdA N H o C ms ls gv ts ∧ Odd C H ms v ∧ ∀ a, H a = none → E (.ref CN) (some a) (upd H a (.xd [("found", v)]))
theorem ok_needX (T : Txt K mg) (R : ErrN P K mg CN fN CM fM) (OC : OrdC K C) (c_is_whole : C8.Cal P w K mg base 1 "is_whole" (spWhX C) []) (M : MAt K C "_need_mark" "Order._need_mark" s_Order__need_mark ["self", "mark"]) : MetX P w K mg base 2 C "_need_mark" (spBadX CN C) := by
  refine M.metX OC.cl sc_Order__need_mark (fun vs H Q E h => ?_) (fun f cdv A outer s H vs Q E hr h => ?_)
  · obtain ⟨N, o, ms, ls, gv, ts, v, rfl, _⟩ := h
    rfl
  · obtain ⟨N, o, ms, ls, gv, ts, v, rfl, r, od, q⟩ := h
    obtain ⟨dx, m, d, fs, kvs, e1, l1, l2, l3, l4, nl, e2, e3, dc, lf, No, Nm, Nd⟩ := r.ex
    refine ⟨_, (pss_one (ps_if (PW.pt (pw_or (pt_not (pt_val (C8.pe_c c_is_whole hr (by decide) (by rfl) (pa_cons (pv 1) (pa_cons pe_int (pa_cons (pe_op op_sub (pe_fld (pv 0) rfl) pe_int) pa_nil)))))) (pw_or1 (pt_cmp (pc_dnotin (hu_of hr) (pv 1) (pe_fld (pv 0) rfl))))))
          (pss_one (ps_raiseE rfl R.e_NoMark R.g_NoMark hr (takes_of rfl rfl rfl rfl) (by exact (pa_cons (pv 1) pa_nil)) (by rfl))) pss_nil)), ?_⟩
    refine ⟨_, rfl, _, rfl, o, C, dx, fs, num gv, rfl, e1, OC.cl, OC.n_given, l3, _, _, rfl, rfl, ?_⟩
    refine ⟨v, ms, (gv : Int) - 1, rfl, od, fun b hb => ⟨_, rfl, ?_⟩⟩
    cases b with
    | false => exact iteT ⟨_, rfl, v, rfl, q⟩
    | true =>
      obtain ⟨k, rfl, hno⟩ := hb rfl
      refine iteF ?_
      refine ⟨_, rfl, _, rfl, o, C, dx, fs, .ref d, rfl, e1, OC.cl, OC.n_labels, l2, d, _, rfl, DGet.k (k := Sum.inl (k : Int)) e3, _, rfl, ?_⟩
      rw [dc.no k hno]
      exact iteT ⟨_, rfl, _, rfl, q⟩
theorem ok_behindX (T : Txt K mg) (OC : OrdC K C) (x_need : MetX P w K mg base 2 C "_need_mark" (spBadX CN C)) (m_many : Met P w K mg base 1 C "many" (spMany C) []) (m__label_at : Met P w K mg base 2 C "_label_at" (spLabAt C) []) (m__label_anew : Met P w K mg base 2 C "_label_anew" (spAnew C) [])
    (M : MAt K C "behind" "Order.behind" s_Order_behind ["self", "mark"]) : MetX P w K mg base 3 C "behind" (spBadX CN C) := by
  refine M.metX OC.cl sc_Order_behind (fun vs H Q E h => ?_) (fun f cdv A outer s H vs Q E hr h => ?_)
  · obtain ⟨N, o, ms, ls, gv, ts, v, rfl, _⟩ := h
    rfl
  · obtain ⟨N, o, ms, ls, gv, ts, v, rfl, r, od, q⟩ := h
    obtain ⟨dx, fs, e1, nl⟩ := r.ins
    refine ⟨_, (pss_cons (ps_expr (pe_mtX x_need hr (by decide) (takes_of rfl rfl rfl rfl) (pv 0) (pa_cons (pv 1) pa_nil)))
      (pss_cons (ps_if (pt_cmpR op_ge (pe_mt0 m_many hr (by decide) (pv 0)) (pe_gi rfl T.g_MOST_MARKS) (nomark _))
          (pss_one ps_never) pss_nil)
      (pss_cons (ps_set (i := 2) sc_Order_behind.nd rfl (Or.inl rfl) (pe_bm PySem.F.plainAttrs_list PySem.F.slot_list_index PySem.F.type_list_index mt_index (pe_fld (pv 0) rfl) (pa_cons (pv 1) pa_nil)))
      (pss_cons (ps_if (pt_cmpR op_lt (pe_op op_sub (pe_mt m__label_at hr (by decide) (pv 0) (pa_cons (pe_op op_add (pv 2) pe_int) pa_nil)) (pe_mt m__label_at hr (by decide) (pv 0) (pa_cons (pv 2) pa_nil))) pe_int (nomark _))
          (pss_one (ps_expr (pe_mt0 m__label_anew hr (by decide) (pv 0)))) pss_nil)
      (pss_cons (ps_set (i := 3) sc_Order_behind.nd rfl (Or.inl rfl) (pe_fld (pv 0) rfl))
      (pss_cons (ps_fldaug (pv 0) pe_int in_add)
      (pss_cons (ps_dput (hu_of hr) (pe_fld (pv 0) rfl) (pv 3) (pe_op op_fdiv (pe_op op_add (pe_mt m__label_at hr (by decide) (pv 0) (pa_cons (pv 2) pa_nil)) (pe_mt m__label_at hr (by decide) (pv 0) (pa_cons (pe_op op_add (pv 2) pe_int) pa_nil))) pe_int) rfl)
      (pss_cons (ps_expr (pe_bm PySem.F.plainAttrs_list PySem.F.slot_list_insert PySem.F.type_list_insert mt_insert (pe_fld (pv 0) rfl) (pa_cons (pe_op op_add (pv 2) pe_int) (pa_cons (pv 3) pa_nil))))
      (pss_one (ps_ret (pv 3))))))))))), ?_⟩
    exact ⟨_, rfl, o, dx, fs, rfl, e1, nl _ (by decide), _, rfl, N, o, ms, ls, gv, ts, v, rfl, r, od, q⟩
theorem ok_labelX (T : Txt K mg) (OC : OrdC K C) (x_need : MetX P w K mg base 2 C "_need_mark" (spBadX CN C))
    (M : MAt K C "label" "Order.label" s_Order_label ["self", "mark"]) : MetX P w K mg base 3 C "label" (spBadX CN C) := by
  refine M.metX OC.cl sc_Order_label (fun vs H Q E h => ?_) (fun f cdv A outer s H vs Q E hr h => ?_)
  · obtain ⟨N, o, ms, ls, gv, ts, v, rfl, _⟩ := h
    rfl
  · obtain ⟨N, o, ms, ls, gv, ts, v, rfl, r, od, q⟩ := h
    obtain ⟨dx, fs, e1, nl⟩ := r.ins
    refine ⟨_, (pss_cons (ps_expr (pe_mtX x_need hr (by decide) (takes_of rfl rfl rfl rfl) (pv 0) (pa_cons (pv 1) pa_nil)))
      (pss_one (ps_ret (pe_dget (hu_of hr) (pe_fld (pv 0) rfl) (pv 1) (fun _ _ => rfl))))), ?_⟩
    exact ⟨_, rfl, o, dx, fs, rfl, e1, nl _ (by decide), _, rfl, N, o, ms, ls, gv, ts, v, rfl, r, od, q⟩
theorem ok_dropX (T : Txt K mg) (OC : OrdC K C) (x_need : MetX P w K mg base 2 C "_need_mark" (spBadX CN C)) (m_many : Met P w K mg base 1 C "many" (spMany C) [])
    (M : MAt K C "drop" "Order.drop" s_Order_drop ["self", "mark"]) : MetX P w K mg base 3 C "drop" (spBadX CN C) := by
  refine M.metX OC.cl sc_Order_drop (fun vs H Q E h => ?_) (fun f cdv A outer s H vs Q E hr h => ?_)
  · obtain ⟨N, o, ms, ls, gv, ts, v, rfl, _⟩ := h
    rfl
  · obtain ⟨N, o, ms, ls, gv, ts, v, rfl, r, od, q⟩ := h
    obtain ⟨dx, fs, e1, nl⟩ := r.ins
    refine ⟨_, (pss_cons (ps_expr (pe_mtX x_need hr (by decide) (takes_of rfl rfl rfl rfl) (pv 0) (pa_cons (pv 1) pa_nil)))
      (pss_cons (ps_if (pt_cmpR op_eq (pe_mt0 m_many hr (by decide) (pv 0)) pe_int (nomark _))
          (pss_one ps_never) pss_nil)
      (pss_cons (ps_expr (pe_bm PySem.F.plainAttrs_list PySem.F.slot_list_remove PySem.F.type_list_remove mt_remove (pe_fld (pv 0) rfl) (pa_cons (pv 1) pa_nil)))
      (pss_one (ps_ddel (pe_fld (pv 0) rfl) (pv 1)))))), ?_⟩
    exact ⟨_, rfl, o, dx, fs, rfl, e1, nl _ (by decide), _, rfl, N, o, ms, ls, gv, ts, v, rfl, r, od, q⟩
def spAh1 (CN C : Addr) : Sp := fun vs H Q E => ∃ (N : Addr → Prop) (o : Addr) (ms ls : List Nat) (gv ts : Nat) (v u : V), vs = [.ref o, v, u] ∧ OrdA N H o C ms ls gv ts ∧ Odd C H ms v ∧ ∀ a, H a = none → E (.ref CN) (some a) (upd H a (.xd [("found", v)]))
theorem ok_ah1 (T : Txt K mg) (OC : OrdC K C) (x_label : MetX P w K mg base 3 C "label" (spBadX CN C)) (M : MAt K C "ahead" "Order.ahead" s_Order_ahead ["self", "one", "other"]) : MetX P w K mg base 4 C "ahead" (spAh1 CN C) := by
  refine M.metX OC.cl sc_Order_ahead (fun vs H Q E h => ?_) (fun f cdv A outer s H vs Q E hr h => ?_)
  · obtain ⟨N, o, ms, ls, gv, ts, v, u, rfl, _⟩ := h
    rfl
  · obtain ⟨N, o, ms, ls, gv, ts, v, u, rfl, r, od, q⟩ := h
    obtain ⟨dx, fs, e1, nl⟩ := r.ins
    refine ⟨_, (pss_one (ps_ret (pe_cmpR op_lt (pe_mtX x_label hr (by decide) (takes_of rfl rfl rfl rfl) (pv 0) (pa_cons (pv 1) pa_nil)) (pe_mtX x_label hr (by decide) (takes_of rfl rfl rfl rfl) (pv 0) (pa_cons (pv 2) pa_nil)) (nomark _)))), ?_⟩
    exact ⟨_, rfl, o, dx, fs, rfl, e1, nl _ (by decide), _, rfl, N, o, ms, ls, gv, ts, v, rfl, r, od, q⟩
def spAh2 (CN C : Addr) : Sp := fun vs H Q E => ∃ (N : Addr → Prop) (o : Addr) (ms ls : List Nat) (gv ts i k : Nat) (v : V), vs = [.ref o, num k, v] ∧ OrdA N H o C ms ls gv ts ∧ ms[i]? = some k ∧ Odd C H ms v ∧ ∀ a, H a = none → E (.ref CN) (some a) (upd H a (.xd [("found", v)]))
theorem ok_ah2 (T : Txt K mg) (OC : OrdC K C) (m_label : Met P w K mg base 3 C "label" (spLabel C) []) (x_label : MetX P w K mg base 3 C "label" (spBadX CN C)) (M : MAt K C "ahead" "Order.ahead" s_Order_ahead ["self", "one", "other"]) : MetX P w K mg base 4 C "ahead" (spAh2 CN C) := by
  refine M.metX OC.cl sc_Order_ahead (fun vs H Q E h => ?_) (fun f cdv A outer s H vs Q E hr h => ?_)
  · obtain ⟨N, o, ms, ls, gv, ts, i, k, v, rfl, _⟩ := h
    rfl
  · obtain ⟨N, o, ms, ls, gv, ts, i, k, v, rfl, r, hk, od, q⟩ := h
    obtain ⟨dx, fs, e1, nl⟩ := r.ins
    obtain ⟨l, hl⟩ : ∃ l, ls[i]? = some l := lab_of r.ok hk
    refine ⟨_, (pss_one (ps_ret (pe_cmpR op_lt (pe_mt m_label hr (by decide) (pv 0) (pa_cons (pv 1) pa_nil)) (pe_mtX x_label hr (by decide) (takes_of rfl rfl rfl rfl) (pv 0) (pa_cons (pv 2) pa_nil)) (nomark _)))), ?_⟩
    exact ⟨_, rfl, o, dx, fs, rfl, e1, nl _ (by decide), _, rfl, N, o, ms, ls, gv, ts, i, k, l, rfl, r, hk, hl, _, rfl, o, dx, fs, rfl, e1, nl _ (by decide), _, rfl, N, o, ms, ls, gv, ts, v, rfl, r, od, q⟩
end
end K15
set_option maxHeartbeats 1000000
namespace K15
open PySem PySem.Spec PyProof.Rows L2 Gd Gx Ge
open C8 (clsBody Met pe_mt pe_mt0)
/-- what the written part says of the classes of errors, for the law -/
structure ErrQ (P : Program) (K : PySem.W.Frag) (mg : Str → Option Value) (CN CM CA CM0 : Addr) : Prop where
  i_NoMark : IsTxt K CN
  i_TooMany : Gc.IsTxt K CM
  g_MakesError : mg "MakesError" = some (.ref CM0)
  g_Alone : mg "Alone" = some (.ref CA)
  t_ValueError : mg "ValueError" = none
  boot_VE : bootBuiltins "ValueError" = some (.type "ValueError")
  nn : PySem.W.kitOne K (.ref CN) (.ref CN) = some true
  nm : PySem.W.kitOne K (.ref CN) (.ref CM) = some false
  na : PySem.W.kitOne K (.ref CN) (.ref CA) = some false
  mn : PySem.W.kitOne K (.ref CM) (.ref CN) = some false
  mm : PySem.W.kitOne K (.ref CM) (.ref CM) = some true
  ma : PySem.W.kitOne K (.ref CM) (.ref CA) = some false
  nv : PySem.W.kitOne K (.ref CN) (.type "ValueError") = some true
  mv : PySem.W.kitOne K (.ref CM) (.type "ValueError") = some true
  m_NoMark : PySem.W.exmOne K (.ref CN) (.ref CM0) = some true
  m_TooMany : PySem.W.exmOne K (.ref CM) (.ref CM0) = some true
theorem any2 {K : PySem.W.Frag} {C A B : Addr} (a : PySem.W.kitOne K (.ref C) (.ref A) = some false) (b : PySem.W.kitOne K (.ref C) (.ref B) = some false) : PySem.W.kitAny K (.ref C) [.ref A, .ref B] = some false := by
  simp [PySem.W.kitAny, a, b]
def tIsE (K : PySem.W.Frag) (CN CM : Addr) (a : Addr) (cls : Value) (d : Option Addr) (D : V) : TE := fun σ H Q => tCB (rIsF K CN a cls d) (tCons (tVar 5) (tCons (tC D) tNil)) σ H Q ∨ tCB (Gc.rIsF K CM a cls d) (tCons (tVar 5) (tCons (tC D) tNil)) σ H Q
def tIsT (K : PySem.W.Frag) (CN CM : Addr) (a : Addr) (cls : Value) (d : Option Addr) (A B : Addr) : TE := fun σ H Q => tCB (rIsFT K CN a cls d) (tCons (tVar 5) (tCons (tTup (tCons (tC (.ref A)) (tCons (tC (.ref B)) tNil))) tNil)) σ H Q ∨ tCB (Gc.rIsFT K CM a cls d) (tCons (tVar 5) (tCons (tTup (tCons (tC (.ref A)) (tCons (tC (.ref B)) tNil))) tNil)) σ H Q
def tsTold (K : PySem.W.Frag) (CN CM CA : Addr) (a : Addr) (cls : Value) (d : Option Addr) : TS :=
  tSeq (tAsg (tTup (tCons (tC (.str "other")) (tCons (tIsE K CN CM a cls d (.ty "ValueError")) tNil))) (gName 4))
    (tIfS (tAnd (tB (tIsE K CN CM a cls d (.ref CN))) (tNot (tB (tIsT K CN CM a cls d CA CM)))) (tAsg (tTup (tCons (tC (.str "mark")) (tCons (tFound CN a cls d (tVar 5)) tNil))) (gName 4))
      (tIfS (tAnd (tB (tIsE K CN CM a cls d (.ref CM))) (tNot (tB (tIsT K CN CM a cls d CA CN)))) (tAsg (tTup (tCons (tC (.str "many")) (tCons (Gc.tFound CM a cls d (tVar 5)) tNil))) (gName 4)) tNext))
section
variable {P : Program} {w : World} {K : PySem.W.Frag} {mg : Str → Option Value} {base : Heap} {C CN fN CM fM CM0 CA : Addr}
def Due (C : Addr) (H : Hp) (ms : List Nat) (way : Int) (v u z : V) : Prop := (Odd C H ms v ∧ z = v) ∨ (¬ way = 0 ∧ ¬ way = 1 ∧ way = 2 ∧ ∃ i k : Nat, v = num k ∧ ms[i]? = some k ∧ Odd C H ms u ∧ z = u)
def spCall (CN CM C : Addr) : Sp := fun vs H Q E => ∃ (N : Addr → Prop) (o : Addr) (ms ls : List Nat) (gv ts : Nat) (way : Int) (v u : V), vs = [.ref o, .int way, v, u] ∧ OrdA N H o C ms ls gv ts ∧
  ((∃ z, Due C H ms way v u z ∧ ∀ a, H a = none → E (.ref CN) (some a) (upd H a (.xd [("found", z)]))) ∨ (∃ i k : Nat, way = 0 ∧ v = num k ∧ ms[i]? = some k ∧ ms.length = 200 ∧ ∀ a, H a = none → E (.ref CM) (some a) (upd H a (.xd [("count", .int 201)]))))
theorem ok_call (T : Txt K mg) (x_behind : MetX P w K mg base 3 C "behind" (spBadX CN C)) (x_full : MetX P w K mg base 4 C "behind" (spFull CM C)) (x_drop : MetX P w K mg base 3 C "drop" (spBadX CN C)) (x_ah1 : MetX P w K mg base 4 C "ahead" (spAh1 CN C)) (x_ah2 : MetX P w K mg base 4 C "ahead" (spAh2 CN C)) (x_label : MetX P w K mg base 3 C "label" (spBadX CN C))
    (D : DefAt K mg "_law_call" s__law_call ["_law_order", "_law_way", "_law_one", "_law_other"]) : CalX P w K mg base 5 "_law_call" (spCall CN CM C) := by
  refine D.calX sc__law_call (fun vs H Q E h => ?_) (fun f cdv A outer s H vs Q E hG hr h => ?_)
  · obtain ⟨N, o, ms, ls, gv, ts, way, v, u, rfl, _⟩ := h
    rfl
  · obtain ⟨N, o, ms, ls, gv, ts, way, v, u, rfl, x, cs⟩ := h
    obtain ⟨dx, fs, e1, nl⟩ := x.ins
    refine ⟨_, (pss_one (ps_if (pt_cmpR op_eq (pv 1) pe_int (nomark _))
          (pss_one (ps_expr (pe_or (pe_mtX x_behind hr (by decide) (takes_of rfl rfl rfl rfl) (pv 0) (pa_cons (pv 2) pa_nil)) (pe_mtX x_full hr (by decide) (takes_of rfl rfl rfl rfl) (pv 0) (pa_cons (pv 2) pa_nil))))) 
          (pss_one (ps_if (pt_cmpR op_eq (pv 1) pe_int (nomark _))
              (pss_one (ps_expr (pe_mtX x_drop hr (by decide) (takes_of rfl rfl rfl rfl) (pv 0) (pa_cons (pv 2) pa_nil)))) 
              (pss_one (ps_if (pt_cmpR op_eq (pv 1) pe_int (nomark _))
                  (pss_one (ps_expr (pe_or (pe_mtX x_ah1 hr (by decide) (takes_of rfl rfl rfl rfl) (pv 0) (pa_cons (pv 2) (pa_cons (pv 3) pa_nil))) (pe_mtX x_ah2 hr (by decide) (takes_of rfl rfl rfl rfl) (pv 0) (pa_cons (pv 2) (pa_cons (pv 3) pa_nil)))))) 
                  (pss_one (ps_expr (pe_mtX x_label hr (by decide) (takes_of rfl rfl rfl rfl) (pv 0) (pa_cons (pv 2) pa_nil)))))))))), ?_⟩
    rcases cs with ⟨z, due, q⟩ | ⟨i, k, rfl, rfl, hk, h200, q⟩
    · refine ⟨_, rfl, rfl, _, rfl, ite2 (fun hc => ?_) (fun hc => ?_)⟩
      · have hw := V.int.inj (of_decide_eq_true hc)
        rcases due with ⟨od, rfl⟩ | ⟨n0, _⟩
        · exact .inl ⟨_, rfl, o, dx, fs, rfl, e1, nl _ (by decide), _, rfl, N, o, ms, ls, gv, ts, z, rfl, x, od, q⟩
        · exact absurd hw n0
      refine ⟨_, rfl, rfl, _, rfl, ite2 (fun hc => ?_) (fun hc => ?_)⟩
      · have hw := V.int.inj (of_decide_eq_true hc)
        rcases due with ⟨od, rfl⟩ | ⟨n0, n1, _⟩
        · exact ⟨_, rfl, o, dx, fs, rfl, e1, nl _ (by decide), _, rfl, N, o, ms, ls, gv, ts, z, rfl, x, od, q⟩
        · exact absurd hw n1
      refine ⟨_, rfl, rfl, _, rfl, ite2 (fun hc => ?_) (fun hc => ?_)⟩
      · rcases due with ⟨od, rfl⟩ | ⟨_, _, _, i, k, rfl, hk, od, rfl⟩
        · exact .inl ⟨_, rfl, o, dx, fs, rfl, e1, nl _ (by decide), _, rfl, _, rfl, N, o, ms, ls, gv, ts, z, u, rfl, x, od, q⟩
        · exact .inr ⟨_, rfl, o, dx, fs, rfl, e1, nl _ (by decide), _, rfl, _, rfl, N, o, ms, ls, gv, ts, i, k, z, rfl, x, hk, od, q⟩
      rcases due with ⟨od, rfl⟩ | ⟨_, _, rfl, _⟩
      · exact ⟨_, rfl, o, dx, fs, rfl, e1, nl _ (by decide), _, rfl, N, o, ms, ls, gv, ts, z, rfl, x, od, q⟩
      · exact absurd (decide_eq_true rfl) hc
    · refine ⟨_, rfl, rfl, _, rfl, ite2 (fun hc => ?_) (fun hc => absurd (decide_eq_true rfl) hc)⟩
      exact .inr ⟨_, rfl, o, dx, fs, rfl, e1, nl _ (by decide), _, rfl, N, o, ms, ls, gv, ts, i, k, rfl, x, hk, h200, q⟩
def spTold (C : Addr) : Sp := fun vs H Q _ => ∃ (N : Addr → Prop) (o : Addr) (ms ls : List Nat) (gv ts : Nat) (way : Int) (v u : V) (wd : Str) (z : V), vs = [.ref o, .int way, v, u] ∧ OrdA N H o C ms ls gv ts ∧
  ((wd = "mark" ∧ Due C H ms way v u z) ∨ (wd = "many" ∧ z = .int 201 ∧ ∃ i k : Nat, way = 0 ∧ v = num k ∧ ms[i]? = some k ∧ ms.length = 200)) ∧
  ∀ (p : Addr) (H' : Hp), Same H H' → H' p = some (.tup [.str wd, z]) → Q (.ref p) H'
theorem Due.same {C : Addr} {H H' : Hp} {ms : List Nat} {way : Int} {v u z : V} (h : Due C H ms way v u z) (s : Same H H') : Due C H' ms way v u z := by
  rcases h with ⟨a, b⟩ | ⟨a, b, c, i, k, d, e, f, g⟩
  · exact .inl ⟨a.same s, b⟩
  · exact .inr ⟨a, b, c, i, k, d, e, f.same s, g⟩
theorem ok_told (T : Txt K mg) (R : ErrN P K mg CN fN CM fM) (Q : ErrQ P K mg CN CM CA CM0) (c__law_call : CalX P w K mg base 5 "_law_call" (spCall CN CM C))
    (D : DefAt K mg "_law_told" s__law_told ["_law_order", "_law_way", "_law_one", "_law_other"]) : CalG P w K mg base 6 "_law_told" (spTold C) := by
  refine D.cal sc__law_told (fun vs H Q E h => ?_) (fun f cdv A outer s H vs Q' E hG hr h => ?_)
  · obtain ⟨N, o, ms, ls, gv, ts, way, v, u, wd, z, rfl, _⟩ := h
    rfl
  · obtain ⟨N, o, ms, ls, gv, ts, way, v, u, wd, z, rfl, x, cs, q⟩ := h
    refine ⟨_, (pss_cons (ps_set (i := 4) sc__law_told.nd rfl (Or.inl rfl) (pe_tup (pa_cons pe_str (pa_cons pe_non pa_nil))))
      (pss_cons (ps_try_as (i := 5) (tb := fun W => tDrop (tCallS (spCall CN CM C) (WE W) (tCons (tVar 0) (tCons (tVar 1) (tCons (tVar 2) (tCons (tVar 3) tNil)))))) (ts := tsTold K CN CM CA) (Wout := fun _ _ _ _ => False) rfl rfl sc__law_told.nd rfl rfl ⟨rfl, by decide, Or.inl Q.g_MakesError⟩ takes0 (fun W pn xe tk _ => pss_one (ps_expr (by exact (pe_gx c__law_call hG (hr.mono (by decide)) (by rfl) tk (by exact (pa_cons (pv 0) (pa_cons (pv 1) (pa_cons (pv 2) (pa_cons (pv 3) pa_nil))))))))) (fun a oe cls d pn hz hf => pss_cons (ps_set (i := 4) sc__law_told.nd rfl (Or.inl rfl) (pe_tup (pa_cons pe_str (pa_cons (pe_or (pe_callB (call_isF R.e_NoMark Q.i_NoMark hz hf) (by rfl) T.b_isinstance boot_isinstance_ (pa_cons (pv 5) (pa_cons (pe_bltn (v := .ty "ValueError") (by rfl) Q.t_ValueError Q.boot_VE rfl) pa_nil))) (pe_callB (Gc.call_isF R.e_TooMany Q.i_TooMany hz hf) (by rfl) T.b_isinstance boot_isinstance_ (pa_cons (pv 5) (pa_cons (pe_bltn (v := .ty "ValueError") (by rfl) Q.t_ValueError Q.boot_VE rfl) pa_nil)))) pa_nil)))) (pss_one (ps_if (PW.pt (pw_and (pt_val (pe_or (pe_callB (call_isF R.e_NoMark Q.i_NoMark hz hf) (by rfl) T.b_isinstance boot_isinstance_ (pa_cons (pv 5) (pa_cons (pe_glob (v := .ref CN) (by rfl) R.g_NoMark rfl) pa_nil))) (pe_callB (Gc.call_isF R.e_TooMany Q.i_TooMany hz hf) (by rfl) T.b_isinstance boot_isinstance_ (pa_cons (pv 5) (pa_cons (pe_glob (v := .ref CN) (by rfl) R.g_NoMark rfl) pa_nil))))) (pw_and1 (pt_not (pt_val (pe_or (pe_callB (call_isFT R.e_NoMark Q.i_NoMark hz hf) (by rfl) T.b_isinstance boot_isinstance_ (pa_cons (pv 5) (pa_cons (pe_tup (pa_cons (pe_glob (v := .ref CA) (by rfl) Q.g_Alone rfl) (pa_cons (pe_glob (v := .ref CM) (by rfl) R.g_TooMany rfl) pa_nil))) pa_nil))) (pe_callB (Gc.call_isFT R.e_TooMany Q.i_TooMany hz hf) (by rfl) T.b_isinstance boot_isinstance_ (pa_cons (pv 5) (pa_cons (pe_tup (pa_cons (pe_glob (v := .ref CA) (by rfl) Q.g_Alone rfl) (pa_cons (pe_glob (v := .ref CM) (by rfl) R.g_TooMany rfl) pa_nil))) pa_nil))))))))) (pss_one (ps_set (i := 4) sc__law_told.nd rfl (Or.inl rfl) (pe_tup (pa_cons pe_str (pa_cons (pe_found R.e_NoMark hz hf (pv 5)) pa_nil))))) (pss_one (ps_if (PW.pt (pw_and (pt_val (pe_or (pe_callB (call_isF R.e_NoMark Q.i_NoMark hz hf) (by rfl) T.b_isinstance boot_isinstance_ (pa_cons (pv 5) (pa_cons (pe_glob (v := .ref CM) (by rfl) R.g_TooMany rfl) pa_nil))) (pe_callB (Gc.call_isF R.e_TooMany Q.i_TooMany hz hf) (by rfl) T.b_isinstance boot_isinstance_ (pa_cons (pv 5) (pa_cons (pe_glob (v := .ref CM) (by rfl) R.g_TooMany rfl) pa_nil))))) (pw_and1 (pt_not (pt_val (pe_or (pe_callB (call_isFT R.e_NoMark Q.i_NoMark hz hf) (by rfl) T.b_isinstance boot_isinstance_ (pa_cons (pv 5) (pa_cons (pe_tup (pa_cons (pe_glob (v := .ref CA) (by rfl) Q.g_Alone rfl) (pa_cons (pe_glob (v := .ref CN) (by rfl) R.g_NoMark rfl) pa_nil))) pa_nil))) (pe_callB (Gc.call_isFT R.e_TooMany Q.i_TooMany hz hf) (by rfl) T.b_isinstance boot_isinstance_ (pa_cons (pv 5) (pa_cons (pe_tup (pa_cons (pe_glob (v := .ref CA) (by rfl) Q.g_Alone rfl) (pa_cons (pe_glob (v := .ref CN) (by rfl) R.g_NoMark rfl) pa_nil))) pa_nil))))))))) (pss_one (ps_set (i := 4) sc__law_told.nd rfl (Or.inl rfl) (pe_tup (pa_cons pe_str (pa_cons (Gc.pe_found R.e_TooMany hz hf (pv 5)) pa_nil))))) pss_nil))))))
      (pss_one (ps_ret (pv 4))))), ?_⟩
    refine ⟨(by show 2 ≤ sizeLine; decide), fun t0 ht0 => ?_⟩
    have s0 : Same H (upd H t0 (.tup [.str "told", .non])) := same_new ht0
    generalize upd H t0 (.tup [.str "told", .non]) = H0 at *
    have x0 := x.same s0
    rcases cs with ⟨rfl, due⟩ | ⟨rfl, rfl, i, k, rfl, rfl, hk, h200⟩
    · refine ⟨_, rfl, _, rfl, _, rfl, _, rfl, N, o, ms, ls, gv, ts, way, v, u, rfl, x0, .inl ⟨z, due.same s0, fun a ha => ?_⟩⟩
      refine ⟨true, Q.m_NoMark, fun _ a' ha' => ?_, fun z => nomatch z⟩
      have s1 : Same H0 (upd H0 a (.xd [("found", z)])) := same_new ha
      have hx : (upd H0 a (.xd [("found", z)])) a = some (.xd [("found", z)]) := upd_same
      generalize upd H0 a (.xd [("found", z)]) = H1 at *
      refine .inl ⟨_, rfl, .ty "ValueError", .type "ValueError", true, a, z, rfl, rfl, rfl, hx, .ty _, Q.nv, (by show 2 ≤ sizeLine; decide), fun t1 ht1 => ?_⟩
      have s2 : Same H1 (upd H1 t1 (.tup [.str "other", .bl true])) := same_new ht1
      have hx2 := s2 _ _ hx
      generalize upd H1 t1 (.tup [.str "other", .bl true]) = H2 at *
      refine .inl ⟨_, rfl, .ref CN, .ref CN, true, a, z, rfl, rfl, rfl, hx2, .own CN, Q.nn, _, rfl, iteT ?_⟩
      refine .inl ⟨_, rfl, (by show 2 ≤ sizeLine; decide), fun t3 ht3 => ?_⟩
      have s3 : Same H2 (upd H2 t3 (.tup [.ref CA, .ref CM])) := same_new ht3
      have hx3 := s3 _ _ hx2
      have e3 : (upd H2 t3 (.tup [.ref CA, .ref CM])) t3 = some (.tup [.ref CA, .ref CM]) := upd_same
      generalize upd H2 t3 (.tup [.ref CA, .ref CM]) = H3 at *
      refine ⟨t3, _, _, false, a, z, rfl, rfl, rfl, hx3, e3, .cons (.own CA) (.cons (.own CM) .nil), any2 Q.na Q.nm, _, rfl, iteT ?_⟩
      refine ⟨_, rfl, rfl, rfl, a, z, rfl, hx3, (by show 2 ≤ sizeLine; decide), fun t2 ht2 => ?_⟩
      exact ⟨_, rfl, q t2 _ ((((s0.trans s1).trans s2).trans s3).trans (same_new ht2)) upd_same⟩
    · refine ⟨_, rfl, _, rfl, _, rfl, _, rfl, N, o, ms, ls, gv, ts, 0, num k, u, rfl, x0, .inr ⟨i, k, rfl, rfl, hk, h200, fun a ha => ?_⟩⟩
      refine ⟨true, Q.m_TooMany, fun _ a' ha' => ?_, fun z => nomatch z⟩
      have s1 : Same H0 (upd H0 a (.xd [("count", .int 201)])) := same_new ha
      have hx : (upd H0 a (.xd [("count", .int 201)])) a = some (.xd [("count", .int 201)]) := upd_same
      generalize upd H0 a (.xd [("count", .int 201)]) = H1 at *
      refine .inr ⟨_, rfl, .ty "ValueError", .type "ValueError", true, a, .int 201, rfl, rfl, rfl, hx, .ty _, Q.mv, (by show 2 ≤ sizeLine; decide), fun t1 ht1 => ?_⟩
      have s2 : Same H1 (upd H1 t1 (.tup [.str "other", .bl true])) := same_new ht1
      have hx2 := s2 _ _ hx
      generalize upd H1 t1 (.tup [.str "other", .bl true]) = H2 at *
      refine .inr ⟨_, rfl, .ref CN, .ref CN, false, a, .int 201, rfl, rfl, rfl, hx2, .own CN, Q.mn, _, rfl, iteF ?_⟩
      refine .inr ⟨_, rfl, .ref CM, .ref CM, true, a, .int 201, rfl, rfl, rfl, hx2, .own CM, Q.mm, _, rfl, iteT ?_⟩
      refine .inr ⟨_, rfl, (by show 2 ≤ sizeLine; decide), fun t3 ht3 => ?_⟩
      have s3 : Same H2 (upd H2 t3 (.tup [.ref CA, .ref CN])) := same_new ht3
      have hx3 := s3 _ _ hx2
      have e3 : (upd H2 t3 (.tup [.ref CA, .ref CN])) t3 = some (.tup [.ref CA, .ref CN]) := upd_same
      generalize upd H2 t3 (.tup [.ref CA, .ref CN]) = H3 at *
      refine ⟨t3, _, _, false, a, .int 201, rfl, rfl, rfl, hx3, e3, .cons (.own CA) (.cons (.own CN) .nil), any2 Q.ma Q.mn, _, rfl, iteT ?_⟩
      refine ⟨_, rfl, rfl, rfl, a, .int 201, rfl, hx3, (by show 2 ≤ sizeLine; decide), fun t2 ht2 => ?_⟩
      exact ⟨_, rfl, q t2 _ ((((s0.trans s1).trans s2).trans s3).trans (same_new ht2)) upd_same⟩
end
end K15
set_option maxHeartbeats 1000000
namespace K15
open PySem PySem.Spec PyProof.Rows L2 Gd Gx Ge
open C8 (clsBody Met pe_mt pe_mt0)
/-- a row of pairs of a mark and its label -/
structure RowX (H : Hp) (xs : List V) (ms ls : List Nat) : Prop where
  lm : xs.length = ms.length
  ll : ls.length = ms.length
  at_ : ∀ (i m l : Nat), ms[i]? = some m → ls[i]? = some l → ∃ t, xs[i]? = some (.ref t) ∧ H t = some (.tup [num m, num l])
def Row (H : Hp) (r : Addr) (ms ls : List Nat) : Prop := ∃ xs, H r = some (.lst xs) ∧ RowX H xs ms ls
/-- every tuple stays -/
def KT (H H' : Hp) : Prop := ∀ (c : Addr) (ys : List V), H c = some (.tup ys) → H' c = some (.tup ys)
theorem KT.of {H H' : Hp} (s : Same H H') : KT H H' := fun c ys z => s c _ z
theorem KT.trans {H1 H2 H3 : Hp} (a : KT H1 H2) (b : KT H2 H3) : KT H1 H3 := fun c ys z => b c ys (a c ys z)
theorem RowX.kp {H H' : Hp} {xs : List V} {ms ls : List Nat} (h : RowX H xs ms ls) (k : KT H H') : RowX H' xs ms ls :=
  ⟨h.lm, h.ll, fun i m l a b => by
    obtain ⟨t, e1, e2⟩ := h.at_ i m l a b
    exact ⟨t, e1, k t _ e2⟩⟩
theorem RowX.get {H : Hp} {xs : List V} {ms ls : List Nat} (h : RowX H xs ms ls) {i : Nat} (hi : i < ms.length) : ∃ m l t, ms[i]? = some m ∧ ls[i]? = some l ∧ xs[i]? = some (.ref t) ∧ H t = some (.tup [num m, num l]) := by
  have h2 := h.ll
  obtain ⟨t, e1, e2⟩ := h.at_ i _ _ (List.getElem?_eq_getElem hi) (List.getElem?_eq_getElem (by omega : i < ls.length))
  exact ⟨_, _, t, List.getElem?_eq_getElem hi, List.getElem?_eq_getElem (by omega), e1, e2⟩
theorem RowX.inl {H : Hp} {xs : List V} {ms ls : List Nat} (h : RowX H xs ms ls) {k m l t : Nat} (hk : k ≤ ms.length) (e : H t = some (.tup [num m, num l])) : RowX H (inl xs k (.ref t)) (K15.inl ms k m) (K15.inl ls k l) := by
  have h1 := h.lm
  have h2 := h.ll
  refine ⟨by rw [inl_len (by omega), inl_len hk, h1], by rw [inl_len (by omega), inl_len hk, h2], fun i a b e1 e2 => ?_⟩
  rw [inl_at hk] at e1
  rw [inl_at (by omega)] at e2
  by_cases z : i < k
  · rw [if_pos z] at e1 e2
    obtain ⟨u, p, q⟩ := h.at_ i a b e1 e2
    exact ⟨u, by rw [inl_at (by omega), if_pos z]; exact p, q⟩
  · rw [if_neg z] at e1 e2
    by_cases z2 : i = k
    · rw [if_pos z2] at e1 e2
      refine ⟨t, by rw [inl_at (by omega), if_neg z, if_pos z2], ?_⟩
      rw [← Option.some.inj e1, ← Option.some.inj e2]
      exact e
    · rw [if_neg z2] at e1 e2
      obtain ⟨u, p, q⟩ := h.at_ _ a b e1 e2
      exact ⟨u, by rw [inl_at (by omega), if_neg z, if_neg z2]; exact p, q⟩
def pd (p : Nat × Nat) : PyData := .tuple [.int (p.1 : Nat), .int (p.2 : Nat)]
theorem RowX.tail {H : Hp} {x : V} {xs : List V} {m l : Nat} {ms ls : List Nat} (h : RowX H (x :: xs) (m :: ms) (l :: ls)) : RowX H xs ms ls :=
  ⟨by have := h.lm; simpa using this, by have := h.ll; simpa using this, fun i a b e1 e2 => h.at_ (i + 1) a b e1 e2⟩
theorem RowX.dp {K : PySem.W.Frag} {H : Hp} : ∀ {xs : List V} {ms ls : List Nat}, RowX H xs ms ls → DpAll K H xs ((ms.zip ls).map pd)
  | [], ms, ls, h => by
    have h1 := h.lm
    obtain rfl : ms = [] := List.length_eq_zero_iff.mp h1.symm
    exact .nil
  | x :: xs, [], ls, h => by
    have h1 := h.lm
    cases h1
  | x :: xs, m :: ms, [], h => by
    have h1 := h.ll
    cases h1
  | x :: xs, m :: ms, l :: ls, h => by
    obtain ⟨t, e1, e2⟩ := h.at_ 0 m l rfl rfl
    obtain rfl := Option.some.inj e1
    exact .cons (.tup (SqT.of e2) (.cons (.int _) (.cons (.int _) .nil))) (RowX.dp h.tail)
theorem inl_end {α : Type} (l : List α) (x : α) : inl l l.length x = l ++ [x] := by
  unfold inl
  rw [List.take_length, List.drop_length, List.append_nil]
theorem RowX.snoc {H : Hp} {xs : List V} {ms ls : List Nat} (h : RowX H xs ms ls) {m l t : Nat} (e : H t = some (.tup [num m, num l])) : RowX H (xs ++ [.ref t]) (ms ++ [m]) (ls ++ [l]) := by
  have z := h.inl (k := ms.length) (Nat.le_refl _) e
  rw [inl_end] at z
  rw [← h.lm, inl_end] at z
  rw [h.lm, ← h.ll, inl_end] at z
  exact z
theorem RowX.step {H : Hp} {ys : List V} {ms ls : List Nat} {k m l t : Nat} (h : RowX H ys (ms.take k) (ls.take k)) (g1 : ms[k]? = some m) (g2 : ls[k]? = some l) (e : H t = some (.tup [num m, num l])) : RowX H (ys ++ [.ref t]) (ms.take (k + 1)) (ls.take (k + 1)) := by
  rw [List.take_add_one, List.take_add_one, g1, g2]
  exact h.snoc e
theorem lt_at {ms : List Nat} {i k : Nat} (h : ms[i]? = some k) : i < ms.length := by
  by_cases z : i < ms.length
  · exact z
  · rw [List.getElem?_eq_none (by omega)] at h
    cases h
theorem lay_pds : ∀ ps : List (Nat × Nat), PyData.canLayAll0 (ps.map pd) = true
  | [] => by simp [PyData.canLayAll0]
  | x :: xs => by simp [PyData.canLayAll0, PyData.canLay0, pd, lay_pds xs]
theorem dep_pds : ∀ ps : List (Nat × Nat), PyData.depthAll (ps.map pd) ≤ 1
  | [] => by simp [PyData.depthAll]
  | x :: xs => by
    have := dep_pds xs
    simp only [List.map_cons, PyData.depthAll, PyData.depth, pd]
    omega
theorem can_pds (ps : List (Nat × Nat)) : PyData.canLay0 (.list (ps.map pd)) = true := by
  simp only [PyData.canLay0]
  exact lay_pds ps
theorem sh_pds (ps : List (Nat × Nat)) : SeqAt.shaped (.list (ps.map pd)) = true := by
  unfold SeqAt.shaped
  rw [can_pds]
  have := dep_pds ps
  simp only [PyData.depth, Bool.true_and]
  exact decide_eq_true (by omega)
theorem yesI {σ : L2.St} {H : Hp} {A B : Hp → Prop} (h : A H) : tYes σ H (fun b H3 => if b = true then A H3 else B H3) := by
  show (if true = true then A H else B H)
  rw [if_pos rfl]
  exact h
theorem dp_app {K : PySem.W.Frag} {H : Hp} : ∀ {xs ys : List V} {ds es : List PyData}, DpAll K H xs ds → DpAll K H ys es → DpAll K H (xs ++ ys) (ds ++ es)
  | _, _, _, _, .nil, h => h
  | _, _, _, _, .cons a b, h => .cons a (dp_app b h)
/-- what is seen of an order -/
def seenD (ms ls : List Nat) (ts : Nat) : PyData := .list ((ms.zip ls).map pd ++ [.int (ts : Nat), .int (ms.length : Nat)])
def Seen (H : Hp) (p : Addr) (ms ls : List Nat) (ts : Nat) : Prop := ∃ ys, H p = some (.lst (ys ++ [num ts, num ms.length])) ∧ RowX H ys ms ls
theorem Seen.kp {H H' : Hp} {p : Addr} {ms ls : List Nat} {ts : Nat} (h : Seen H p ms ls ts) (k : ∀ u, H p = some u → H' p = some u) (kt : KT H H') : Seen H' p ms ls ts := by
  obtain ⟨ys, a, b⟩ := h
  exact ⟨ys, k _ a, b.kp kt⟩
theorem Seen.same {H H' : Hp} {p : Addr} {ms ls : List Nat} {ts : Nat} (h : Seen H p ms ls ts) (s : Same H H') : Seen H' p ms ls ts := h.kp (fun u z => s _ _ z) (KT.of s)
theorem Seen.dp {K : PySem.W.Frag} {H : Hp} {p : Addr} {ms ls : List Nat} {ts : Nat} (h : Seen H p ms ls ts) : Dp K H (.ref p) (seenD ms ls ts) := by
  obtain ⟨ys, a, b⟩ := h
  exact .lst (SqL.of a) (dp_app b.dp (.cons (.int _) (.cons (.int _) .nil)))
theorem lay_app : ∀ xs ys : List PyData, PyData.canLayAll0 (xs ++ ys) = (PyData.canLayAll0 xs && PyData.canLayAll0 ys)
  | [], ys => by simp [PyData.canLayAll0]
  | x :: xs, ys => by
    simp only [List.cons_append, PyData.canLayAll0, lay_app xs ys, Bool.and_assoc]
theorem dep_app : ∀ xs ys : List PyData, PyData.depthAll (xs ++ ys) = max (PyData.depthAll xs) (PyData.depthAll ys)
  | [], ys => by simp [PyData.depthAll]
  | x :: xs, ys => by
    simp only [List.cons_append, PyData.depthAll, dep_app xs ys]
    omega
theorem can_seen (ms ls : List Nat) (ts : Nat) : PyData.canLay0 (seenD ms ls ts) = true := by
  have h := can_pds (ms.zip ls)
  unfold seenD
  unfold PyData.canLay0 at h ⊢
  rw [lay_app, h]
  simp [PyData.canLayAll0, PyData.canLay0]
theorem sh_seen (ms ls : List Nat) (ts : Nat) : SeqAt.shaped (seenD ms ls ts) = true := by
  have h := sh_pds (ms.zip ls)
  have c := can_seen ms ls ts
  unfold SeqAt.shaped at h ⊢
  rw [c]
  rw [can_pds] at h
  unfold seenD
  unfold PyData.depth at h ⊢
  rw [dep_app]
  have e : PyData.depthAll [PyData.int (ts : Nat), PyData.int (ms.length : Nat)] = 0 := by simp [PyData.depthAll, PyData.depth]
  rw [e, Nat.max_zero]
  exact h
section
variable {P : Program} {w : World} {K : PySem.W.Frag} {mg : Str → Option Value} {base : Heap} {C CN fN CM fM CM0 CA : Addr}
def spSeen (C : Addr) : Sp := fun vs H Q _ => ∃ (N : Addr → Prop) (o : Addr) (ms ls : List Nat) (gv ts : Nat), vs = [.ref o] ∧ OrdA N H o C ms ls gv ts ∧ ∀ (p : Addr) (H' : Hp), H p = none → Same H H' → Seen H' p ms ls ts → Q (.ref p) H'
theorem ok_seen (T : Txt K mg) (m_marks : Met P w K mg base 1 C "marks" (spMarks C) []) (m_label : Met P w K mg base 3 C "label" (spLabel C) []) (m_anew : Met P w K mg base 1 C "anew" (spTimes C) []) (m_many : Met P w K mg base 1 C "many" (spMany C) [])
    (D : DefAt K mg "_law_seen" s__law_seen ["_law_order"]) : CalG P w K mg base 4 "_law_seen" (spSeen C) := by
  refine D.cal sc__law_seen (fun vs H Q E h => ?_) (fun f cdv A outer s H vs Q E hG hr h => ?_)
  · obtain ⟨N, o, ms, ls, gv, ts, rfl, _⟩ := h
    rfl
  · obtain ⟨N, o, ms, ls, gv, ts, rfl, x, q⟩ := h
    obtain ⟨dx, fs, e1, nl⟩ := x.ins
    have ok := x.ok
    have few := ok.few
    have hll := ok.len
    have hlm : (ms.map num).length = ms.length := List.length_map _
    refine ⟨_, (pss_one (ps_ret (pe_op op_cat (pe_lc (own := [("_law_mark", 1)]) (g := gName 1) (tt := tYes) rfl sc__law_seen.nd (pi_list (pe_mt0 m_marks hr (by decide) (pv 0))) (blkOk_by (own := [("_law_mark", 1)]) (N := ["_law_order", "_law_mark"]) (sc := defScope s__law_seen) (by decide +kernel)) (fun _ _ _ _ _ => pg_name (i := 1) sc__law_seen.nd rfl (Or.inl rfl)) (fun _ _ _ _ _ => pts_nil) (fun _ _ _ _ _ => (pe_tup (pa_cons (pv 1) (pa_cons (pe_mt m_label hr (by decide) (pv 0) (pa_cons (pv 1) pa_nil)) pa_nil))))) (pe_lst (pa_cons (pe_mt0 m_anew hr (by decide) (pv 0)) (pa_cons (pe_mt0 m_many hr (by decide) (pv 0)) pa_nil)))))), ?_⟩
    refine ⟨_, rfl, o, dx, fs, rfl, e1, nl _ (by decide), N, o, ms, ls, gv, ts, rfl, x, fun r H1 nr s1 hr1 => ?_⟩
    refine ⟨r, rfl, ⟨_, SqL.of hr1⟩, fun B hB => ?_⟩
    refine lc_it (walk_list (xs := ms.map num)) (fun k H' => Same H1 H' ∧ ∃ ys, H' B = some (.lst ys) ∧ RowX H' ys (ms.take k) (ls.take k)) ⟨same_new hB, [], upd_same, ⟨rfl, rfl, fun a b c z => by cases z⟩⟩ (fun k H' _ hP => SqL.of (hP.1 _ _ hr1)) (fun k v H7 H8 hk hP hY => ?_) (fun H7 hP => ?_)
    · obtain ⟨s7, ys, d2, rw2⟩ := hP
      obtain ⟨rfl, hx⟩ := hY
      rw [hlm] at hk
      have a1 : ms[k]? = some ms[k] := List.getElem?_eq_getElem hk
      have a2 : ls[k]? = some ls[k] := List.getElem?_eq_getElem (by omega)
      generalize ms[k] = m at a1
      generalize ls[k] = l at a2
      rw [List.getElem?_map, a1] at hx
      cases (show some (num m) = some v from hx)
      have s17 := s1.trans s7
      refine ⟨rfl, yesI ?_⟩
      refine ⟨_, rfl, _, rfl, o, dx, fs, rfl, s17 _ _ e1, nl _ (by decide), _, rfl, N, o, ms, ls, gv, ts, k, m, l, rfl, x.same s17, a1, a2, (by show 2 ≤ sizeLine; decide), fun t3 ht3 => ?_⟩
      have s78 := same_new (o := .tup [num m, num l]) ht3
      have f3 : (upd H8 t3 (.tup [num m, num l])) t3 = some (.tup [num m, num l]) := upd_same
      refine ⟨_, s78 _ _ d2, ?_, ?_⟩
      · have := rw2.lm
        rw [List.length_take] at this
        exact small1000 (by omega)
      · have rw4 := rw2.kp (KT.of s78)
        have d4 := s78 _ _ d2
        have s9 := s7.trans s78
        generalize upd H8 t3 (.tup [num m, num l]) = H9 at *
        refine ⟨fun c u z => ?_, _, upd_same, (rw4.step a1 a2 f3).kp fun c u z => ?_⟩
        · rw [upd_ne (ne_of_none z hB)]
          exact s9 _ _ z
        · rw [upd_ne (fun e : c = B => by rw [e, d4] at z; cases z)]
          exact z
    obtain ⟨s7, ys, dB, rw2⟩ := hP
    rw [hlm, List.take_of_length_le (Nat.le_refl _), List.take_of_length_le (by omega)] at rw2
    have s07 := s1.trans s7
    have x7 := x.same s07
    have hly := rw2.lm
    refine ⟨_, rfl, o, dx, fs, rfl, s07 _ _ e1, nl _ (by decide), N, o, ms, ls, gv, ts, rfl, x7, _, rfl, o, dx, fs, rfl, s07 _ _ e1, nl _ (by decide), N, o, ms, ls, gv, ts, rfl, x7, (by show 2 ≤ sizeLine; decide), fun l hl => ?_⟩
    have s8 := same_new (o := .lst [num ts, num ms.length]) hl
    have e8 : (upd H7 l (.lst [num ts, num ms.length])) l = some (.lst [num ts, num ms.length]) := upd_same
    have dB8 := s8 _ _ dB
    have rw8 := rw2.kp (KT.of s8)
    have s08 := s07.trans s8
    generalize upd H7 l (.lst [num ts, num ms.length]) = H8 at *
    refine ⟨B, l, ys, _, rfl, rfl, dB8, e8, ?_, fun p hp => ?_⟩
    · show ys.length + 2 ≤ sizeLine
      have : ((10 : Nat) ^ 3 : Nat) ≤ sizeLine := by decide
      omega
    have s9 := same_new (o := .lst (ys ++ [num ts, num ms.length])) hp
    exact q p _ (none_of' s08 hp) (s08.trans s9) ⟨ys, upd_same, rw8.kp (KT.of s9)⟩
end
end K15
set_option maxHeartbeats 1000000
namespace K15
open PySem PySem.Spec PyProof.Rows L2 Gd Gx Ge
open C8 (clsBody Met pe_mt pe_mt0)
theorem cut_mem {xs : List V} {lo hi : Option Int} {v : V} (h : v ∈ cutV xs lo hi) : v ∈ xs := by
  unfold cutV at h
  exact List.mem_of_mem_drop (List.mem_of_mem_take h)
theorem Odd.kpb {C b : Addr} {H H' : Hp} {ms : List Nat} {m : Int} {x : V} (h : Odd C H ms x) (hB : BoxD H b m) (k : ∀ c u, c ≠ b → H c = some u → H' c = some u) : Odd C H' ms x := by
  obtain ⟨_, _, _, kvs, hb, hl, _⟩ := hB
  cases h with
  | int i h => exact .int i h
  | bl b => exact .bl b
  | non => exact .non
  | str z => exact .str z
  | lst e => exact .lst (k _ _ (fun z => by rw [z, hb] at e; cases e) e)
  | tup e => exact .tup (k _ _ (fun z => by rw [z, hb] at e; cases e) e)
  | dK e => exact .dK (k _ _ (fun z => by rw [z, hb] at e; cases (HO.dK.inj (Option.some.inj e)); cases hl) e)
  | dM e => exact .dM (k _ _ (fun z => by rw [z, hb] at e; cases (HO.dK.inj (Option.some.inj e)); cases hl) e)
  | ins e => exact .ins (k _ _ (fun z => by rw [z, hb] at e; cases e) e)
section
variable {P : Program} {w : World} {K : PySem.W.Frag} {mg : Str → Option Value} {base : Heap} {C CN fN CM fM CM0 CA : Addr}
def spOdd (C : Addr) : Sp := fun vs H Q _ => ∃ (b t r g dx : Addr) (fs : List (Str × V)) (ms gs : List Nat) (gv : Nat) (m : Int), vs = [.ref b, .ref t, .ref r, .ref g, num gv] ∧ BoxD H b m ∧ m ≤ 100000 ∧ H t = some (.ins C dx fs) ∧ H g = some (.lst (gs.map num)) ∧ gs.length ≤ 100 ∧ gv ≤ 1000 ∧
  (∀ (j k : Nat), ms[j]? = some k → k < gv) ∧ (∀ k, k ∈ gs → ∀ j : Nat, ms[j]? ≠ some k) ∧
  ∀ (z : V) (H' : Hp), Odd C H' ms z → BoxD H' b (m + 1) → (∀ c u, c ≠ b → H c = some u → H' c = some u) → Q z H'
theorem ok_odd (T : Txt K mg) (c__law_take : CalG P w K mg base 1 "_law_take" spTakeD) (D : DefAt K mg "_law_odd" s__law_odd ["_law_box_here", "_law_order", "_law_row", "_law_gone", "_law_given"]) : CalG P w K mg base 2 "_law_odd" (spOdd C) := by
  refine D.cal sc__law_odd (fun vs H Q E h => ?_) (fun f cdv A outer s H vs Q E hG hr h => ?_)
  · obtain ⟨b, t, r, g, dx, fs, ms, gs, gv, m, rfl, _⟩ := h
    rfl
  · obtain ⟨b, t, r, g, dx, fs, ms, gs, gv, m, rfl, hB, hm, ht, hg, hgl, hgv, hlt, hgo, q⟩ := h
    refine ⟨_, (pss_cons (ps_set (i := 5) sc__law_odd.nd rfl (Or.inl rfl) (pe_lst (pa_cons (pe_un un_neg pe_int) (pa_cons (pv 4) (pa_cons (pe_op op_add (pv 4) pe_int) (pa_cons (pe_op op_pow pe_int pe_int) (pa_cons (pe_op op_sub pe_int (pe_op op_pow pe_int pe_int)) (pa_cons pe_bl (pa_cons pe_bl (pa_cons pe_non (pa_cons pe_str (pa_cons pe_str (pa_cons (pe_lst (pa_cons pe_int pa_nil)) (pa_cons (pe_tup (pa_cons pe_int pa_nil)) (pa_cons pe_dnewK (pa_cons (pe_lst pa_nil) (pa_cons (pv 1) pa_nil)))))))))))))))))
      (pss_cons (ps_set (i := 5) sc__law_odd.nd rfl (Or.inl rfl) (pe_op op_cat (pe_op op_cat (pv 5) (pe_lst (pa_cons (pe_lst (pa_cons (pv 1) pa_nil)) (pa_cons (pe_disp (pps_cons pe_str pe_int pps_nil) (by rfl) (by rfl) (fun z => by cases z) (by decide)) pa_nil)))) (pe_slice sl_list (pv 3) (po_some (pe_un un_neg pe_int)) po_none)))
      (pss_one (ps_ret (pe_ix ix_list (pv 5) (pe_g c__law_take hG (hr.mono (by decide)) (by rfl) (pa_cons (pv 0) (pa_cons (pe_callB call_len (by rfl) T.b_len boot_len_ (pa_cons (pv 5) pa_nil)) pa_nil))) (fun _ _ => rfl)))))), ?_⟩
    refine ⟨_, rfl, _, rfl, _, rfl, _, _, rfl, rfl, _, _, rfl, rfl, ⟨by decide, by decide, by decide⟩, _, _, rfl, rfl, ⟨by decide, by decide, by decide⟩, _, _, rfl, rfl, ?_⟩
    refine ⟨(by show 1 ≤ sizeLine; decide), fun p1 h1 => ⟨(by show 1 ≤ sizeLine; decide), fun p2 h2 => fun p3 h3 => ⟨(by show 0 ≤ sizeLine; decide), fun p4 h4 => ⟨_, rfl, (by show 15 ≤ sizeLine; decide), fun l hl => ?_⟩⟩⟩⟩
    have s1 := same_new (o := .lst [.int 0]) h1
    have e1 : (upd H p1 (.lst [.int 0])) p1 = some (.lst [.int 0]) := upd_same
    generalize upd H p1 (.lst [.int 0]) = H1 at *
    have s2 := same_new (o := .tup [.int 0]) h2
    have e2 : (upd H1 p2 (.tup [.int 0])) p2 = some (.tup [.int 0]) := upd_same
    generalize upd H1 p2 (.tup [.int 0]) = H2 at *
    have s3 := same_new (o := .dK []) h3
    have e3 : (upd H2 p3 (.dK [])) p3 = some (.dK []) := upd_same
    generalize upd H2 p3 (.dK []) = H3 at *
    have s4 := same_new (o := .lst []) h4
    have e4 : (upd H3 p4 (.lst [])) p4 = some (.lst []) := upd_same
    generalize upd H3 p4 (.lst []) = H4 at *
    have s04 := s1.trans (s2.trans (s3.trans s4))
    have o1 := s4 _ _ (s3 _ _ (s2 _ _ e1))
    have o2 := s4 _ _ (s3 _ _ e2)
    have o3 := s4 _ _ e3
    have big : (1000 : Int) < 10 ^ (39 : Int).toNat := by decide
    generalize hxs : ([.int (-1), num gv, .int (((gv : Nat) : Int) + 1), .int (10 ^ (39 : Int).toNat), .int (0 - 10 ^ (39 : Int).toNat), .bl true, .bl false, .non, .str "0", .str "", .ref p1, .ref p2, .ref p3, .ref p4, .ref t] : List V) = xs
    have s5 := same_new (o := .lst xs) hl
    have e5 : (upd H4 l (.lst xs)) l = some (.lst xs) := upd_same
    generalize upd H4 l (.lst xs) = H5 at *
    refine ⟨_, rfl, _, rfl, (by show 1 ≤ sizeLine; decide), fun p5 h5 => fun p6 h6 => ⟨upd_same, [(kMark, .int 0)], rfl, (by show 1 ≤ 15; decide), ?_⟩⟩
    have s6 := same_new (o := .lst [.ref t]) h5
    have e6 : (upd H5 p5 (.lst [.ref t])) p5 = some (.lst [.ref t]) := upd_same
    generalize upd H5 p5 (.lst [.ref t]) = H6 at *
    rw [upd_upd]
    have s7 := same_new (o := .dK (mergeK [] [(kMark, .int 0)])) h6
    have e7 : (upd H6 p6 (.dK (mergeK [] [(kMark, .int 0)]))) p6 = some (.dK (mergeK [] [(kMark, .int 0)])) := upd_same
    generalize upd H6 p6 (.dK (mergeK [] [(kMark, .int 0)])) = H7 at *
    refine ⟨(by show 2 ≤ sizeLine; decide), fun l2 hl2 => ?_⟩
    have s8 := same_new (o := .lst [.ref p5, .ref p6]) hl2
    have e8 : (upd H7 l2 (.lst [.ref p5, .ref p6])) l2 = some (.lst [.ref p5, .ref p6]) := upd_same
    generalize upd H7 l2 (.lst [.ref p5, .ref p6]) = H8 at *
    have s58 := s6.trans (s7.trans s8)
    have hxl : xs.length = 15 := by rw [← hxs]; rfl
    have big2 : ((10 : Nat) ^ 3 : Nat) ≤ sizeLine := by decide
    refine ⟨l, l2, xs, _, rfl, rfl, s58 _ _ e5, e8, (by show xs.length + 2 ≤ sizeLine; omega), fun l3 hl3 => ?_⟩
    have s9 := same_new (o := .lst (xs ++ [.ref p5, .ref p6])) hl3
    have e9 : (upd H8 l3 (.lst (xs ++ [.ref p5, .ref p6]))) l3 = some (.lst (xs ++ [.ref p5, .ref p6])) := upd_same
    generalize upd H8 l3 (.lst (xs ++ [.ref p5, .ref p6])) = H9 at *
    have s49 := s5.trans (s58.trans s9)
    have s09 := s04.trans s49
    refine ⟨_, rfl, _, rfl, _, rfl, g, _, rfl, SqL.of (s09 _ _ hg), fun l4 hl4 => ?_⟩
    generalize hcs : cutV (gs.map num) (some (-3)) none = cs
    have hcl : cs.length ≤ 100 := by
      have := cutV_length (gs.map num) (some (-3)) none
      rw [hcs, List.length_map] at this
      omega
    have s10 := same_new (o := .lst cs) hl4
    have e10 : (upd H9 l4 (.lst cs)) l4 = some (.lst cs) := upd_same
    generalize upd H9 l4 (.lst cs) = H10 at *
    refine ⟨l3, l4, xs ++ [.ref p5, .ref p6], cs, rfl, rfl, s10 _ _ e9, e10, (by rw [List.length_append, hxl]; show 15 + 2 + cs.length ≤ sizeLine; omega), fun l5 hl5 => ?_⟩
    generalize hzs : xs ++ [.ref p5, .ref p6] ++ cs = zs
    have hzl : zs.length ≤ 117 ∧ 17 ≤ zs.length := by
      rw [← hzs, List.length_append, List.length_append, hxl]
      show 15 + 2 + cs.length ≤ 117 ∧ 17 ≤ 15 + 2 + cs.length
      omega
    have s11 := same_new (o := .lst zs) hl5
    have e11 : (upd H10 l5 (.lst zs)) l5 = some (.lst zs) := upd_same
    generalize upd H10 l5 (.lst zs) = H11 at *
    have s4B := s49.trans (s10.trans s11)
    have s0B := s04.trans s4B
    have sB : Same H6 H11 := s7.trans (s8.trans (s9.trans (s10.trans s11)))
    have hall : ∀ v, v ∈ zs → Odd C H11 ms v := fun v hv => by
      rw [← hzs, List.mem_append, List.mem_append] at hv
      rcases hv with (hv | hv) | hv
      · rw [← hxs] at hv
        simp only [List.mem_cons, List.not_mem_nil, or_false] at hv
        have nn : ∀ i : Int, (i < 0 ∨ (gv : Int) ≤ i) → noM ms i := fun i hi k e j hj => by
          have := hlt j k hj
          omega
        rcases hv with rfl | rfl | rfl | rfl | rfl | rfl | rfl | rfl | rfl | rfl | rfl | rfl | rfl | rfl | rfl
        · exact .int _ (nn _ (.inl (by decide)))
        · exact .int _ (nn _ (.inr (by omega)))
        · exact .int _ (nn _ (.inr (by omega)))
        · exact .int _ (nn _ (.inr (by omega)))
        · exact .int _ (nn _ (.inl (by omega)))
        · exact .bl _
        · exact .bl _
        · exact .non
        · exact .str _
        · exact .str _
        · exact .lst (s4B _ _ o1)
        · exact .tup (s4B _ _ o2)
        · exact .dK (s4B _ _ o3)
        · exact .lst (s4B _ _ (by assumption))
        · exact .ins (s0B _ _ ht)
      · simp only [List.mem_cons, List.not_mem_nil, or_false] at hv
        rcases hv with rfl | rfl
        · exact .lst (sB _ _ e6)
        · exact .dM ((s8.trans (s9.trans (s10.trans s11))) _ _ e7)
      · rw [← hcs] at hv
        obtain ⟨k, hk, rfl⟩ := List.mem_map.mp (cut_mem hv)
        exact .int _ fun k2 e j hj => hgo k hk j (by
          have : k2 = k := by
            have := e
            omega
          rw [← this]
          exact hj)
    have hB11 : BoxD H11 b m := hB.kp fun u z => s0B _ _ z
    have lb : l5 ≠ b := (hB.kp fun u z => (s04.trans (s49.trans s10)) _ _ z).ne hl5
    refine ⟨_, rfl, _, rfl, _, rfl, .ref l5, _, rfl, .inl ⟨_, SqL.of e11, rfl⟩, b, ((zs.length : Nat) : Int), m, rfl, hB11, by omega, by omega, by omega, fun d H12 d0 d1 hB12 k12 => ?_⟩
    obtain ⟨v, hv, hat⟩ := pickL zs d0 d1
    refine ⟨l5, zs, _, v, rfl, rfl, SqL.of ((k12 _ lb).trans e11), hat, q v H12 ((hall v hv).kpb hB11 fun c u hc z => (k12 c hc).trans z) hB12 fun c u hc z => (k12 c hc).trans (s0B _ _ z)⟩
end
end K15
set_option maxHeartbeats 8000000
namespace K15
open PySem PySem.Spec PyProof.Rows L2 Gd Gx Ge
open C8 (clsBody Met pe_mt pe_mt0)
section
variable {P : Program} {w : World} {K : PySem.W.Frag} {mg : Str → Option Value} {base : Heap} {C CN fN CM fM CM0 CA : Addr}
theorem box_kt {b : Addr} {H1 H2 : Hp} {n : Int} (hB : BoxD H1 b n) (k : ∀ c u, c ≠ b → H1 c = some u → H2 c = some u) : KT H1 H2 := fun c ys z => k c _ (fun e => by
  obtain ⟨_, _, _, _, hu, _⟩ := hB
  rw [e, hu] at z
  cases z) z
theorem box_nl {b r : Addr} {H1 : Hp} {n : Int} {xs : List V} (hB : BoxD H1 b n) (h : H1 r = some (.lst xs)) : r ≠ b := fun e => by
  obtain ⟨_, _, _, _, hu, _⟩ := hB
  rw [e, hu] at h
  cases h
def spRight (C : Addr) : Sp := fun vs H Q _ => ∃ (N : Addr → Prop) (b t r g : Addr) (ms ls gs : List Nat) (gv ts : Nat) (m : Int), vs = [.ref b, .ref t, .ref r, .ref g, num gv] ∧ BoxD H b m ∧ m ≤ 10000 ∧ OrdA N H t C ms ls gv ts ∧ ¬ N b ∧
  H r = some (.lst (ms.map num)) ∧ H g = some (.lst (gs.map num)) ∧ gs.length ≤ 100 ∧ gv ≤ 1000 ∧ (∀ k, k ∈ gs → ∀ j : Nat, ms[j]? ≠ some k) ∧
  ∀ H', BoxD H' b (m + 5) → (∀ c u, c ≠ b → H c = some u → H' c = some u) → Q (.bl true) H'
theorem ok_right (T : Txt K mg) (IT : IsT K C) (CC : CmpC K C) (c__law_take : CalG P w K mg base 1 "_law_take" spTakeD) (c__law_odd : CalG P w K mg base 2 "_law_odd" (spOdd C)) (c__law_seen : CalG P w K mg base 4 "_law_seen" (spSeen C)) (c__law_told : CalG P w K mg base 6 "_law_told" (spTold C))
    (D : DefAt K mg "_law_right" s__law_right ["_law_box_here", "_law_order", "_law_row", "_law_gone", "_law_given"]) : CalG P w K mg base 7 "_law_right" (spRight C) := by
  refine D.cal sc__law_right (fun vs H Q E h => ?_) (fun f cdv A outer s H vs Q E hG hr h => ?_)
  · obtain ⟨N, b, t, r, g, ms, ls, gs, gv, ts, m, rfl, _⟩ := h
    rfl
  · obtain ⟨N, b, t, r, g, ms, ls, gs, gv, ts, m, rfl, hB, hm, x, nb, hr1, hg1, hgl, hgv, hgo, q⟩ := h
    have ok := x.ok
    have hpos := ok.pos
    have few := ok.few
    have hrb := box_nl hB hr1
    have hgb := box_nl hB hg1
    have hml : (ms.map num).length = ms.length := List.length_map _
    refine ⟨_, (pss_cons (ps_set (i := 5) sc__law_right.nd rfl (Or.inl rfl) (pe_g c__law_take hG (hr.mono (by decide)) (by rfl) (pa_cons (pv 0) (pa_cons pe_int pa_nil))))
      (pss_cons (ps_set (i := 6) sc__law_right.nd rfl (Or.inl rfl) (pe_g c__law_take hG (hr.mono (by decide)) (by rfl) (pa_cons (pv 0) (pa_cons pe_int pa_nil))))
      (pss_cons (ps_par (i := 7) (j := 8) rfl sc__law_right.nd rfl rfl (by decide) rfl rfl (pa_cons (pe_g c__law_odd hG (hr.mono (by decide)) (by rfl) (pa_cons (pv 0) (pa_cons (pv 1) (pa_cons (pv 2) (pa_cons (pv 3) (pa_cons (pv 4) pa_nil)))))) (pa_cons (pe_g c__law_odd hG (hr.mono (by decide)) (by rfl) (pa_cons (pv 0) (pa_cons (pv 1) (pa_cons (pv 2) (pa_cons (pv 3) (pa_cons (pv 4) pa_nil)))))) pa_nil)) rfl)
      (pss_cons (ps_set (i := 9) sc__law_right.nd rfl (Or.inl rfl) (pe_ix ix_list (pv 2) (pe_g c__law_take hG (hr.mono (by decide)) (by rfl) (pa_cons (pv 0) (pa_cons (pe_callB call_len (by rfl) T.b_len boot_len_ (pa_cons (pv 2) pa_nil)) pa_nil))) (fun _ _ => rfl)))
      (pss_cons (ps_set (i := 10) sc__law_right.nd rfl (Or.inl rfl) (pe_g c__law_seen hG (hr.mono (by decide)) (by rfl) (pa_cons (pv 1) pa_nil)))
      (pss_cons (ps_set (i := 11) sc__law_right.nd rfl (Or.inl rfl) (pe_tup (pa_cons pe_str (pa_cons (pv 7) pa_nil))))
      (pss_cons (ps_set (i := 12) sc__law_right.nd rfl (Or.inl rfl) (pe_ix ix_list (pe_lst (pa_cons (pe_tup (pa_cons (pv 7) (pa_cons (pv 9) pa_nil))) (pa_cons (pe_tup (pa_cons (pv 7) (pa_cons (pv 8) pa_nil))) (pa_cons (pe_tup (pa_cons (pv 9) (pa_cons (pv 8) pa_nil))) (pa_cons (pe_tup (pa_cons (pv 7) (pa_cons (pv 9) pa_nil))) pa_nil))))) (pv 6) (fun _ _ => rfl)))
      (pss_cons (ps_if (pt_cmpR op_eq (pv 6) pe_int (nomark _))
          (pss_cons (ps_set (i := 5) sc__law_right.nd rfl (Or.inl rfl) pe_int)
          (pss_one (ps_set (i := 11) sc__law_right.nd rfl (Or.inl rfl) (pe_tup (pa_cons pe_str (pa_cons (pv 8) pa_nil)))))) pss_nil)
      (pss_cons (ps_set (i := 13) sc__law_right.nd rfl (Or.inl rfl) (pe_g c__law_told hG (hr.mono (by decide)) (by rfl) (pa_cons (pv 1) (pa_cons (pv 5) (pa_cons (pe_ix ix_tup (pv 12) pe_int (fun _ _ => rfl)) (pa_cons (pe_ix ix_tup (pv 12) pe_int (fun _ _ => rfl)) pa_nil))))))
      (pss_cons (ps_if (PW.pt (pw_or (pt_cmpR op_ne (pe_ix ix_tup (pv 13) pe_int (fun _ _ => rfl)) (pe_ix ix_tup (pv 11) pe_int (fun _ _ => rfl)) (nomark _)) (pw_or (pt_cmpR (op_neS CC (hu64 hr)) (pe_ix ix_tup (pv 13) pe_int (fun _ _ => rfl)) (pe_ix ix_tup (pv 11) pe_int (fun _ _ => rfl)) (nomark _)) (pw_or1 (pt_cmpR op_ne (pe_callB call_isi (by rfl) T.b_isinstance boot_isinstance_ (pa_cons (pe_ix ix_tup (pv 13) pe_int (fun _ _ => rfl)) (pa_cons (pe_bltn (v := .ty "bool") (by rfl) T.t_bool boot_bool_ rfl) pa_nil))) (pe_callB call_isi (by rfl) T.b_isinstance boot_isinstance_ (pa_cons (pe_ix ix_tup (pv 11) pe_int (fun _ _ => rfl)) (pa_cons (pe_bltn (v := .ty "bool") (by rfl) T.t_bool boot_bool_ rfl) pa_nil))) (nomark _))))))
          (pss_one (ps_ret pe_bl)) pss_nil)
      (pss_one (ps_ret (pe_cmpR (op_eqD (hu64 hr)) (pe_g c__law_seen hG (hr.mono (by decide)) (by rfl) (pa_cons (pv 1) pa_nil)) (pv 10) (nomark _)))))))))))))), ?_⟩
    refine ⟨_, rfl, b, 4, m, rfl, hB, by omega, by decide, by decide, fun way H1 w0 w1 hB1 k1 => ?_⟩
    refine ⟨_, rfl, b, 4, m + 1, rfl, hB1, by omega, by decide, by decide, fun both H2 b0 b1 hB2 k2 => ?_⟩
    have kk2 : ∀ c u, c ≠ b → H c = some u → H2 c = some u := fun c u hc z => (k2 c hc).trans ((k1 c hc).trans z)
    have x2 := x.kp (fun c u hc z => kk2 c u (fun e => nb (e ▸ hc)) z)
    obtain ⟨dx, fs, xi2, nl⟩ := x2.ins
    refine ⟨_, rfl, _, rfl, _, rfl, _, rfl, _, rfl, b, t, r, g, dx, fs, ms, gs, gv, m + 1 + 1, rfl, hB2, by omega, xi2, kk2 _ _ hgb hg1, hgl, hgv, ok.lt, hgo, fun one H3 od3 hB3 k3 => ?_⟩
    have x3 := x2.kp (fun c u hc z => k3 c u (fun e => nb (e ▸ hc)) z)
    obtain ⟨dx3, fs3, xi3, nl⟩ := x3.ins
    refine ⟨_, rfl, _, rfl, _, rfl, _, rfl, _, rfl, b, t, r, g, dx3, fs3, ms, gs, gv, m + 1 + 1 + 1, rfl, hB3, by omega, xi3, k3 _ _ hgb (kk2 _ _ hgb hg1), hgl, hgv, ok.lt, hgo, fun other H4 oo4 hB4 k4 => ?_⟩
    have od4 := od3.kpb hB3 k4
    have x4 := x3.kp (fun c u hc z => k4 c u (fun e => nb (e ▸ hc)) z)
    refine ⟨_, _, rfl, ?_⟩
    have k04 : ∀ c u, c ≠ b → H c = some u → H4 c = some u := fun c u hc z => k4 c u hc (k3 c u hc (kk2 c u hc z))
    have hr4 := k04 _ _ hrb hr1
    refine ⟨_, rfl, _, rfl, _, rfl, .ref r, _, rfl, .inl ⟨_, SqL.of hr4, rfl⟩, b, (((ms.map num).length : Nat) : Int), m + 1 + 1 + 1 + 1, rfl, hB4, by omega, by omega, by omega, fun gi H5 g0 g1 hB5 k5 => ?_⟩
    have x5 := x4.kp (H' := H5) (fun c u hc z => (k5 c (fun e => nb (e ▸ hc))).trans z)
    have od5 := od4.kpb hB4 fun c u hc z => (k5 c hc).trans z
    have oo5 := oo4.kpb hB4 fun c u hc z => (k5 c hc).trans z
    have k05 : ∀ c u, c ≠ b → H c = some u → H5 c = some u := fun c u hc z => (k5 c hc).trans (k04 c u hc z)
    obtain ⟨i, rfl⟩ : ∃ i : Nat, gi = i := ⟨gi.toNat, by omega⟩
    obtain ⟨k, hk⟩ : ∃ k, ms[i]? = some k := ⟨_, List.getElem?_eq_getElem (by omega)⟩
    refine ⟨r, _, _, num k, rfl, rfl, SqL.of (k05 _ _ hrb hr1), atI_nat (by rw [List.getElem?_map, hk]; rfl), ?_⟩
    clear k1 k2 k3 k4 k5 kk2 x2 x3 x4 od3 od4 oo4 hB1 hB2 hB3 hB4 xi2 xi3 nl hr4 k04
    refine ⟨_, rfl, N, t, ms, ls, gv, ts, rfl, x5, fun p0 H6 np0 s6 sn6 => ?_⟩
    have x6 := x5.same s6
    have od6 := od5.same s6
    have oo6 := oo5.same s6
    have B6 := hB5.kp fun u z => s6 _ _ z
    have k06 : ∀ c u, c ≠ b → H c = some u → H6 c = some u := fun c u hc z => s6 _ _ (k05 c u hc z)
    clear k05 x5 od5 oo5 hB5
    refine ⟨_, rfl, (by show 2 ≤ sizeLine; decide), fun t0 h0 => ?_⟩
    have s7 := same_new (o := .tup [.str "mark", one]) h0
    have e0 : (upd H6 t0 (.tup [.str "mark", one])) t0 = some (.tup [.str "mark", one]) := upd_same
    generalize upd H6 t0 (.tup [.str "mark", one]) = H7 at *
    have x7 := x6.same s7
    have od7 := od6.same s7
    have oo7 := oo6.same s7
    have B7 := B6.kp fun u z => s7 _ _ z
    have S7 := sn6.same s7
    have k07 : ∀ c u, c ≠ b → H c = some u → H7 c = some u := fun c u hc z => s7 _ _ (k06 c u hc z)
    clear x6 od6 oo6 B6 sn6 k06
    refine ⟨_, rfl, _, rfl, (by show 2 ≤ sizeLine; decide), fun t1 h1 => ⟨_, rfl, _, rfl, (by show 2 ≤ sizeLine; decide), fun t2 h2 => ⟨_, rfl, _, rfl, (by show 2 ≤ sizeLine; decide), fun t3 h3 => ⟨_, rfl, _, rfl, (by show 2 ≤ sizeLine; decide), fun t4 h4 => ⟨(by show 4 ≤ sizeLine; decide), fun l hl => ?_⟩⟩⟩⟩⟩
    have s1 := same_new (o := .tup [one, num k]) h1
    have e1 : (upd H7 t1 (.tup [one, num k])) t1 = some (.tup [one, num k]) := upd_same
    generalize upd H7 t1 (.tup [one, num k]) = A1 at *
    have s2 := same_new (o := .tup [one, other]) h2
    have e2 : (upd A1 t2 (.tup [one, other])) t2 = some (.tup [one, other]) := upd_same
    generalize upd A1 t2 (.tup [one, other]) = A2 at *
    have s3 := same_new (o := .tup [num k, other]) h3
    have e3 : (upd A2 t3 (.tup [num k, other])) t3 = some (.tup [num k, other]) := upd_same
    generalize upd A2 t3 (.tup [num k, other]) = A3 at *
    have s4 := same_new (o := .tup [one, num k]) h4
    have e4 : (upd A3 t4 (.tup [one, num k])) t4 = some (.tup [one, num k]) := upd_same
    generalize upd A3 t4 (.tup [one, num k]) = A4 at *
    have s5 := same_new (o := .lst [.ref t1, .ref t2, .ref t3, .ref t4]) hl
    have el : (upd A4 l (.lst [.ref t1, .ref t2, .ref t3, .ref t4])) l = some (.lst [.ref t1, .ref t2, .ref t3, .ref t4]) := upd_same
    generalize upd A4 l (.lst [.ref t1, .ref t2, .ref t3, .ref t4]) = A5 at *
    have s75 := s1.trans (s2.trans (s3.trans (s4.trans s5)))
    have f0 := s75 _ _ e0
    have f1 := s5 _ _ (s4 _ _ (s3 _ _ (s2 _ _ e1)))
    have f2 := s5 _ _ (s4 _ _ (s3 _ _ e2))
    have f3 := s5 _ _ (s4 _ _ e3)
    have f4 := s5 _ _ e4
    have X5 := x7.same s75
    have d5 := od7.same s75
    have d5' := oo7.same s75
    have B5 := B7.kp fun u z => s75 _ _ z
    have S5 := S7.same s75
    have K5 : ∀ c u, c ≠ b → H c = some u → A5 c = some u := fun c u hc z => s75 _ _ (k07 c u hc z)
    clear s1 s2 s3 s4 s5 e1 e2 e3 e4 e0 x7 od7 oo7 B7 S7 k07 s7 s75 h1 h2 h3 h4 hl h0
    rcases (by omega : both = 0 ∨ both = 3 ∨ both = 1 ∨ both = 2) with rfl | rfl | rfl | rfl
    focus
      refine ⟨_, rfl, l, _, _, .ref t1, rfl, rfl, SqL.of el, rfl, ?_⟩
      refine ⟨_, rfl, rfl, _, rfl, ite2 (fun z => absurd z (by decide)) (fun _ => ?_)⟩
      refine ⟨_, rfl, _, rfl, _, rfl, t1, _, _, one, rfl, rfl, SqT.of f1, rfl, _, rfl, t1, _, _, num k, rfl, rfl, SqT.of f1, rfl, ?_⟩
      refine ⟨N, t, ms, ls, gv, ts, way, one, num k, "mark", one, rfl, X5, .inl ⟨rfl, .inl ⟨d5, rfl⟩⟩, fun p H6 s6 hp => ?_⟩
      have odz : Odd C H6 ms one := d5.same s6
      have hd : H6 t0 = some (.tup [.str "mark", one]) := s6 _ _ f0
      have X6 := X5.same s6
      have S6 := S5.same s6
      have B6 := B5.kp fun u z => s6 _ _ z
      have K6 : ∀ c u, c ≠ b → H c = some u → H6 c = some u := fun c u hc z => s6 _ _ (K5 c u hc z)
      generalize t0 = due at hd ⊢
      obtain ⟨tt, bi, bb, ty, _, kb, _⟩ := odz.ty IT
    rotate_left
    focus
      refine ⟨_, rfl, l, _, _, .ref t4, rfl, rfl, SqL.of el, rfl, ?_⟩
      refine ⟨_, rfl, rfl, _, rfl, ite2 (fun z => absurd z (by decide)) (fun _ => ?_)⟩
      refine ⟨_, rfl, _, rfl, _, rfl, t4, _, _, one, rfl, rfl, SqT.of f4, rfl, _, rfl, t4, _, _, num k, rfl, rfl, SqT.of f4, rfl, ?_⟩
      refine ⟨N, t, ms, ls, gv, ts, way, one, num k, "mark", one, rfl, X5, .inl ⟨rfl, .inl ⟨d5, rfl⟩⟩, fun p H6 s6 hp => ?_⟩
      have odz : Odd C H6 ms one := d5.same s6
      have hd : H6 t0 = some (.tup [.str "mark", one]) := s6 _ _ f0
      have X6 := X5.same s6
      have S6 := S5.same s6
      have B6 := B5.kp fun u z => s6 _ _ z
      have K6 : ∀ c u, c ≠ b → H c = some u → H6 c = some u := fun c u hc z => s6 _ _ (K5 c u hc z)
      generalize t0 = due at hd ⊢
      obtain ⟨tt, bi, bb, ty, _, kb, _⟩ := odz.ty IT
    rotate_left
    focus
      refine ⟨_, rfl, l, _, _, .ref t2, rfl, rfl, SqL.of el, rfl, ?_⟩
      refine ⟨_, rfl, rfl, _, rfl, ite2 (fun z => absurd z (by decide)) (fun _ => ?_)⟩
      refine ⟨_, rfl, _, rfl, _, rfl, t2, _, _, one, rfl, rfl, SqT.of f2, rfl, _, rfl, t2, _, _, other, rfl, rfl, SqT.of f2, rfl, ?_⟩
      refine ⟨N, t, ms, ls, gv, ts, way, one, other, "mark", one, rfl, X5, .inl ⟨rfl, .inl ⟨d5, rfl⟩⟩, fun p H6 s6 hp => ?_⟩
      have odz : Odd C H6 ms one := d5.same s6
      have hd : H6 t0 = some (.tup [.str "mark", one]) := s6 _ _ f0
      have X6 := X5.same s6
      have S6 := S5.same s6
      have B6 := B5.kp fun u z => s6 _ _ z
      have K6 : ∀ c u, c ≠ b → H c = some u → H6 c = some u := fun c u hc z => s6 _ _ (K5 c u hc z)
      generalize t0 = due at hd ⊢
      obtain ⟨tt, bi, bb, ty, _, kb, _⟩ := odz.ty IT
    rotate_left
    focus
      refine ⟨_, rfl, l, _, _, .ref t3, rfl, rfl, SqL.of el, rfl, ?_⟩
      refine ⟨_, rfl, rfl, _, rfl, ite2 (fun _ => ?_) (fun z => absurd (by decide) z)⟩
      refine ⟨_, rfl, (by show 2 ≤ sizeLine; decide), fun due hdue => ?_⟩
      have s1 := same_new (o := .tup [.str "mark", other]) hdue
      have g0 : (upd A5 due (.tup [.str "mark", other])) due = some (.tup [.str "mark", other]) := upd_same
      generalize upd A5 due (.tup [.str "mark", other]) = A6 at *
      refine ⟨_, rfl, _, rfl, _, rfl, t3, _, _, num k, rfl, rfl, SqT.of (s1 _ _ f3), rfl, _, rfl, t3, _, _, other, rfl, rfl, SqT.of (s1 _ _ f3), rfl, ?_⟩
      refine ⟨N, t, ms, ls, gv, ts, 2, num k, other, "mark", other, rfl, X5.same s1, .inl ⟨rfl, .inr ⟨by decide, by decide, rfl, i, k, rfl, hk, d5'.same s1, rfl⟩⟩, fun p H6 s6 hp => ?_⟩
      have s16 := s1.trans s6
      have odz : Odd C H6 ms other := d5'.same s16
      have hd : H6 due = some (.tup [.str "mark", other]) := s6 _ _ g0
      have X6 := X5.same s16
      have S6 := S5.same s16
      have B6 := B5.kp fun u z => s16 _ _ z
      have K6 : ∀ c u, c ≠ b → H c = some u → H6 c = some u := fun c u hc z => s16 _ _ (K5 c u hc z)
      obtain ⟨tt, bi, bb, ty, _, kb, _⟩ := odz.ty IT
    all_goals
      refine ⟨_, rfl, p, _, _, .str "mark", rfl, rfl, SqT.of hp, rfl, _, rfl, due, _, _, .str "mark", rfl, rfl, SqT.of hd, rfl, rfl, _, rfl, ifSame ?_⟩
      refine ⟨_, rfl, p, _, _, _, rfl, rfl, SqT.of hp, rfl, _, rfl, due, _, _, _, rfl, rfl, SqT.of hd, rfl, odz.se ⟨_, rfl, iteF ?_⟩⟩
      refine ⟨_, rfl, p, _, _, _, rfl, rfl, SqT.of hp, rfl, _, .ty "bool", _, .type "bool", bb, rfl, .ty _, ty, kb, ?_⟩
      refine ⟨_, rfl, due, _, _, _, rfl, rfl, SqT.of hd, rfl, _, .ty "bool", _, .type "bool", bb, rfl, .ty _, ty, kb, rfl, _, rfl, ifSame ?_⟩
      refine ⟨_, rfl, N, t, ms, ls, gv, ts, rfl, X6, fun p9 H9 np9 s9 sn9 => ?_⟩
      refine ⟨_, rfl, _, _, sn9.dp, (S6.same s9).dp, sh_seen _ _ _, sh_seen _ _ _, ?_⟩
      rw [PySem.SeqAt.eqv_refl _ (can_seen _ _ _)]
      exact q H9 ((B6.kp fun u z => s9 _ _ z).up (by omega)) fun c u hc z => s9 _ _ (K6 c u hc z)
end
end K15
namespace K15
open PySem PySem.Spec PyProof.Rows L2 Gd Gx Ge
open C8 (clsBody Met pe_mt pe_mt0)
theorem mark_ok : PyData.strOk ("mark" : Str) = true := by decide +kernel
theorem many_ok : PyData.strOk ("many" : Str) = true := by decide +kernel
theorem can_two {w : Str} (m : Int) (h : PyData.strOk w = true) : PyData.canLay0 (.tuple [.str w, .int m]) = true := by simp [PyData.canLay0, PyData.canLayAll0, h]
theorem sh_two {w : Str} (m : Int) (h : PyData.strOk w = true) : SeqAt.shaped (.tuple [.str w, .int m]) = true := by
  unfold SeqAt.shaped
  simp [PyData.canLay0, PyData.canLayAll0, PyData.depth, PyData.depthAll, h]
theorem can_twoN {w : Str} (h : PyData.strOk w = true) : PyData.canLay0 (.tuple [.str w, .none]) = true := by simp [PyData.canLay0, PyData.canLayAll0, h]
theorem sh_twoN {w : Str} (h : PyData.strOk w = true) : SeqAt.shaped (.tuple [.str w, .none]) = true := by
  unfold SeqAt.shaped
  simp [PyData.canLay0, PyData.canLayAll0, PyData.depth, PyData.depthAll, h]
theorem sh_nil : SeqAt.shaped (.list []) = true := by
  unfold SeqAt.shaped
  simp [PyData.canLay0, PyData.canLayAll0, PyData.depth, PyData.depthAll]
theorem has_inl {ms : List Nat} {g k : Nat} (hk : k ≤ ms.length) (has : ∀ j, j < g → ∃ i : Nat, ms[i]? = some j) : ∀ j, j < g + 1 → ∃ i : Nat, (inl ms k g)[i]? = some j := fun j hj => by
  by_cases z : j = g
  · subst z
    exact ⟨k, by rw [inl_at hk, if_neg (by omega), if_pos rfl]⟩
  · obtain ⟨i, hi⟩ := has j (by omega)
    by_cases y : i < k
    · exact ⟨i, by rw [inl_at hk, if_pos y]; exact hi⟩
    · refine ⟨i + 1, ?_⟩
      rw [inl_at hk, if_neg (by omega), if_neg (by omega)]
      exact hi
section
variable {P : Program} {w : World} {K : PySem.W.Frag} {mg : Str → Option Value} {base : Heap} {C CN fN CM fM CM0 CA : Addr}
def spFR : Sp := fun vs H Q _ => ∃ (b : Addr) (m : Int), vs = [.ref b] ∧ BoxD H b m ∧ m ≤ 10000 ∧ ∀ H', Q (.bl true) H'
theorem ok_fr {fO : Addr} {fdO : FuncData} (T : Txt K mg) (cO : mg "Order" = some (.ref C)) (M_Order : Mk K C fO) (B_Order : Binds K fdO ["self"] []) (G_Order : FnOk P w K mg base CX0 1 fO fdO ["self"] (spInit C)) (m_behind : Met P w K mg base 3 C "behind" (spBehind C) []) (m_drop : Met P w K mg base 3 C "drop" (spDrop C) []) (m_marks : Met P w K mg base 1 C "marks" (spMarks C) []) (m_many : Met P w K mg base 1 C "many" (spMany C) []) (c__law_take : CalG P w K mg base 1 "_law_take" spTakeD) (c__law_seen : CalG P w K mg base 4 "_law_seen" (spSeen C)) (c__law_told : CalG P w K mg base 6 "_law_told" (spTold C))
    (D : DefAt K mg "_law_full_right" s__law_full_right ["_law_box_here"]) : CalG P w K mg base 7 "_law_full_right" spFR := by
  refine D.cal sc__law_full_right (fun vs H Q E h => ?_) (fun f cdv A outer s H vs Q E hG hr h => ?_)
  · obtain ⟨b, m, rfl, _⟩ := h
    rfl
  · obtain ⟨b, m, rfl, hB, hm, q⟩ := h
    refine ⟨_, (pss_cons (ps_set (i := 1) sc__law_full_right.nd rfl (Or.inr rfl) (pe_make0 M_Order G_Order (hr.mono (by decide)) rfl cO B_Order .nil pass0))
      (pss_cons (ps_set (i := 2) sc__law_full_right.nd rfl (Or.inl rfl) (pe_op op_add pe_int (pe_g c__law_take hG (hr.mono (by decide)) (by rfl) (pa_cons (pv 0) (pa_cons pe_int pa_nil)))))
      (pss_cons (ps_for PassesOwn.never rfl (pi_range1 rfl T.b_range (pa_cons pe_int pa_nil)) (pg_name (i := 3) sc__law_full_right.nd rfl (Or.inl rfl))
          (pss_one (ps_expr (pe_mt m_behind hr (by decide) (pv 1) (pa_cons (pe_ifExp (pt_cmpR op_lt (pv 2) pe_int (nomark _)) (pe_op op_fdiv (pv 3) pe_int) pe_int) pa_nil)))))
      (pss_cons (ps_set (i := 4) sc__law_full_right.nd rfl (Or.inl rfl) (pe_g c__law_seen hG (hr.mono (by decide)) (by rfl) (pa_cons (pv 1) pa_nil)))
      (pss_cons (ps_if (pt_cmpR (op_neD (hu64 hr)) (pe_lc (own := [("_law_mark", 5)]) (g := gName 5) (tt := _) rfl sc__law_full_right.nd (pi_range1 rfl T.b_range (pa_cons pe_int pa_nil)) (blkOk_by (own := [("_law_mark", 5)]) (N := ["_law_box_here", "_law_order", "_law_spread", "_law_k", "_law_seen_here", "_law_mark"]) (sc := defScope s__law_full_right) (by decide +kernel)) (fun _ _ _ _ _ => pg_name (i := 5) sc__law_full_right.nd rfl (Or.inl rfl)) (fun _ _ _ _ _ => (pts_one (pt_cmpR (show OpR _ (compareOp .NotEq) (rNeD K) from op_neD (hu64 hr)) (pe_g c__law_told hG (hr.mono (by decide)) (by rfl) (pa_cons (pv 1) (pa_cons pe_int (pa_cons (pv 5) (pa_cons pe_int pa_nil))))) (pe_tup (pa_cons pe_str (pa_cons pe_int pa_nil))) (nomark _)))) (fun _ _ _ _ _ => (pv 5))) (pe_lst pa_nil) (nomark _))
          (pss_one (ps_ret pe_bl)) pss_nil)
      (pss_cons (ps_if (PW.pt (pw_or (pt_cmpR (op_neD (hu64 hr)) (pe_g c__law_seen hG (hr.mono (by decide)) (by rfl) (pa_cons (pv 1) pa_nil)) (pv 4) (nomark _)) (pw_or1 (pt_cmpR (op_neD (hu64 hr)) (pe_g c__law_told hG (hr.mono (by decide)) (by rfl) (pa_cons (pv 1) (pa_cons pe_int (pa_cons pe_int (pa_cons pe_int pa_nil))))) (pe_tup (pa_cons pe_str (pa_cons pe_int pa_nil))) (nomark _)))))
          (pss_one (ps_ret pe_bl)) pss_nil)
      (pss_cons (ps_if (PW.pt (pw_or (pt_cmpR (op_neD (hu64 hr)) (pe_g c__law_told hG (hr.mono (by decide)) (by rfl) (pa_cons (pv 1) (pa_cons pe_int (pa_cons pe_non (pa_cons pe_int pa_nil))))) (pe_tup (pa_cons pe_str (pa_cons pe_non pa_nil))) (nomark _)) (pw_or1 (pt_cmpR (op_neD (hu64 hr)) (pe_g c__law_seen hG (hr.mono (by decide)) (by rfl) (pa_cons (pv 1) pa_nil)) (pv 4) (nomark _)))))
          (pss_one (ps_ret pe_bl)) pss_nil)
      (pss_cons (ps_expr (pe_mt m_drop hr (by decide) (pv 1) (pa_cons (pe_g c__law_take hG (hr.mono (by decide)) (by rfl) (pa_cons (pv 0) (pa_cons pe_int pa_nil))) pa_nil)))
      (pss_one (ps_ret (pe_and (pe_cmpR op_eq (pe_mt m_behind hr (by decide) (pv 1) (pa_cons (pe_ix ix_list (pe_mt0 m_marks hr (by decide) (pv 1)) (pe_g c__law_take hG (hr.mono (by decide)) (by rfl) (pa_cons (pv 0) (pa_cons pe_int pa_nil))) (fun _ _ => rfl)) pa_nil)) pe_int (nomark _)) (pe_one (pe_cmpR op_eq (pe_mt0 m_many hr (by decide) (pv 1)) pe_int (nomark _)))))))))))))), ?_⟩
    intro u du n1 n2 ne1
    refine ⟨u, du, rfl, upd_same, fun H1 N1 x1 k1 f1 => ⟨rfl, ?_⟩⟩
    have s1 : Same H H1 := fun c x z => k1 c x (ne_of_none z n1) (by rw [upd_ne (ne_of_none z n1), upd_ne (ne_of_none z n2)]; exact z)
    have g1 : ∀ c, N1 c → H c = none := fun c hc => by
      rcases f1 c hc with rfl | h
      · exact n1
      · exact none_of' (fun c x z => by rw [upd_ne (ne_of_none z n1), upd_ne (ne_of_none z n2)]; exact z) h
    have nb1 : ¬ N1 b := fun h => by
      have := g1 b h
      obtain ⟨_, _, _, _, hu, _⟩ := hB
      rw [hu] at this
      cases this
    have hB1 : BoxD H1 b m := hB.kp fun u z => s1 _ _ z
    refine ⟨_, rfl, b, 3, m, rfl, hB1, by omega, by decide, by decide, fun sp H2 p0 p1 hB2 k2 => ⟨_, _, rfl, rfl, ?_⟩⟩
    have x2 := x1.kp (H' := H2) fun c u hc z => (k2 c (fun e => nb1 (e ▸ hc))).trans z
    refine ⟨_, rfl, by decide, by decide, ?_⟩
    refine for_range (lo := 0) (fun k σ H' => ∃ (ms ls : List Nat) (ts : Nat) (y3 : Option V), σ = [some (.ref b), some (.ref u), some (.int (1 + sp)), y3, none, none] ∧ OrdA N1 H' u C ms ls (k + 1) ts ∧ ms.length = k + 1 ∧ (∀ j, j < k + 1 → ∃ i : Nat, ms[i]? = some j) ∧ BoxD H' b (m + 1) ∧ k ≤ 199)
      ⟨_, _, _, none, rfl, x2, rfl, fun j hj => ⟨0, by rw [show j = 0 from by omega]; rfl⟩, hB2, by omega⟩ (fun k σ H3 hk hP => ?_) (fun σ H3 hP => ?_)
    · obtain ⟨ms, ls, ts, y3, rfl, x, hml, has, hB3, _⟩ := hP
      replace hk : k < 199 := hk
      obtain ⟨dx, fs, xi, nl⟩ := x.ins
      refine ⟨_, rfl, u, dx, fs, rfl, xi, nl _ (by decide), _, rfl, _, _, rfl, rfl, _, rfl, ?_⟩
      have fin : ∀ kk : Nat, kk < k + 1 → ∀ (i : Nat), ms[i]? = some kk → ∀ H' : Hp, OrdA N1 H' u C (inl ms (i + 1) (k + 1)) (inl (readyL ls i) (i + 1) (midL ls i)) (k + 1 + 1) (readyT ls i ts) → (∀ c u, ¬ N1 c → H3 c = some u → H' c = some u) →
          ∃ (ms ls : List Nat) (ts : Nat) (y : Option V), [some (V.ref b), some (.ref u), some (.int (1 + sp)), some (.int (0 + (k : Nat))), none, none] = [some (V.ref b), some (.ref u), some (.int (1 + sp)), y, none, none] ∧ OrdA N1 H' u C ms ls (k + 1 + 1) ts ∧ ms.length = k + 1 + 1 ∧ (∀ j, j < k + 1 + 1 → ∃ i : Nat, ms[i]? = some j) ∧ BoxD H' b (m + 1) ∧ k + 1 ≤ 199 := fun kk hkk i hi H' x' k' => by
        have il : i < ms.length := by
          by_cases z : i < ms.length
          · exact z
          · rw [List.getElem?_eq_none (by omega)] at hi
            cases hi
        exact ⟨_, _, _, _, rfl, x', by rw [inl_len (by omega), hml], has_inl (by omega) has, hB3.kp fun u z => k' _ _ nb1 z, by omega⟩
      refine ite2 (fun _ => ⟨_, rfl, _, _, rfl, rfl, ⟨by decide, by decide⟩, ?_⟩) (fun _ => ?_)
      · obtain ⟨i, hi⟩ := has (k / 2) (by omega)
        refine ⟨N1, u, ms, ls, k + 1, ts, i, k / 2, ?_, x, hi, by omega, by omega, fun H4 x4 k4 => fin _ (by omega) i hi H4 x4 k4⟩
        show [V.ref u, V.int ((0 + ((k : Nat) : Int)) / 2)] = [.ref u, num (k / 2)]
        rw [show (0 + ((k : Nat) : Int)) / 2 = ((k / 2 : Nat) : Int) from by omega]
        rfl
      · obtain ⟨i, hi⟩ := has 0 (by omega)
        exact ⟨N1, u, ms, ls, k + 1, ts, i, 0, rfl, x, hi, by omega, by omega, fun H4 x4 k4 => fin _ (by omega) i hi H4 x4 k4⟩
    obtain ⟨ms, ls, ts, y3, rfl, x, hml, has, hB3, _⟩ := hP
    replace x : OrdA N1 H3 u C ms ls 200 ts := x
    replace hml : ms.length = 200 := hml
    replace has : ∀ j, j < 200 → ∃ i : Nat, ms[i]? = some j := has
    have hlt := x.ok.lt
    have no200 : noM ms 200 := fun k e j hj => by
      have := hlt j k hj
      omega
    clear x1 x2 k1 k2 hB hB1 hB2 f1 ne1 n1 n2
    refine ⟨_, rfl, N1, u, ms, ls, 200, ts, rfl, x, fun p0 H4 np0 s4 sn => ?_⟩
    have x4 := x.same s4
    have hB4 := hB3.kp fun u z => s4 _ _ z
    clear x hB3 np0
    refine ⟨_, rfl, by decide, by decide, fun B hB => ?_⟩
    refine lc_it (walk_range (lo := 0) (n := 200)) (fun k H' => Same H4 H' ∧ H' B = some (.lst [])) ⟨same_new hB, upd_same⟩ (fun k H' _ hP => trivial) (fun k v H5 H6 hk hP hY => ?_) (fun H5 hP => ?_)
    · obtain ⟨s5, d5⟩ := hP
      obtain ⟨rfl, rfl⟩ := hY
      obtain ⟨ix, hix⟩ := has k hk
      have ek : (V.int (0 + ((k : Nat) : Int))) = num k := by
        show V.int _ = V.int _
        congr 1
        omega
      refine ⟨rfl, ?_⟩
      refine ⟨_, rfl, _, rfl, N1, u, ms, ls, 200, ts, 0, num k, .int 0, "many", .int 201, (by rw [← ek]; rfl), x4.same s5, .inr ⟨rfl, rfl, ix, k, rfl, rfl, hix, hml⟩, fun p HA sA hp => ?_⟩
      refine ⟨(by show 2 ≤ sizeLine; decide), fun q2 hq2 => ?_⟩
      have sB := same_new (o := .tup [.str "many", .int 201]) hq2
      have eB : (upd HA q2 (.tup [.str "many", .int 201])) q2 = some (.tup [.str "many", .int 201]) := upd_same
      generalize upd HA q2 (.tup [.str "many", .int 201]) = HC at *
      refine ⟨.tuple [.str "many", .int 201], .tuple [.str "many", .int 201], .tup (SqT.of (sB _ _ hp)) (.cons (.str _) (.cons (.int _) .nil)), .tup (SqT.of eB) (.cons (.str _) (.cons (.int _) .nil)), sh_two _ many_ok, sh_two _ many_ok, _, rfl, ?_⟩
      rw [PySem.SeqAt.eqv_refl _ (can_two _ many_ok)]
      refine iteF ?_
      exact ⟨s5.trans (sA.trans sB), sB _ _ (sA _ _ d5)⟩
    obtain ⟨s5, d5⟩ := hP
    refine ⟨(by show 0 ≤ sizeLine; decide), fun l hl => ?_⟩
    have s6 := same_new (o := .lst []) hl
    have e6 : (upd H5 l (.lst [])) l = some (.lst []) := upd_same
    generalize upd H5 l (.lst []) = H6 at *
    refine ⟨.list [], .list [], .lst (SqL.of (s6 _ _ d5)) .nil, .lst (SqL.of e6) .nil, sh_nil, sh_nil, _, rfl, ?_⟩
    rw [PySem.SeqAt.eqv_refl _ (by simp [PyData.canLay0, PyData.canLayAll0])]
    refine iteF ?_
    have x6 := x4.same (s5.trans s6)
    have sn6 := sn.same (s5.trans s6)
    have hB6 := hB4.kp fun u z => (s5.trans s6) _ _ z
    clear x4 sn hB4 s5 s6 s4 d5 e6 hl hB
    -- seen again, and the 201st
    refine ⟨_, rfl, N1, u, ms, ls, 200, ts, rfl, x6, fun p1 H7 np1 s7 sn1 => ?_⟩
    refine ⟨_, rfl, _, _, sn1.dp, (sn6.same s7).dp, sh_seen _ _ _, sh_seen _ _ _, _, rfl, ?_⟩
    rw [PySem.SeqAt.eqv_refl _ (can_seen _ _ _)]
    refine iteF ?_
    have x7 := x6.same s7
    have sn7 := sn6.same s7
    have hB7 := hB6.kp fun u z => s7 _ _ z
    refine ⟨_, rfl, N1, u, ms, ls, 200, ts, 0, .int 200, .int 0, "mark", .int 200, rfl, x7, .inl ⟨rfl, .inl ⟨.int _ no200, rfl⟩⟩, fun p HA sA hp => ?_⟩
    refine ⟨(by show 2 ≤ sizeLine; decide), fun q2 hq2 => ?_⟩
    have sB := same_new (o := .tup [.str "mark", .int 200]) hq2
    have eB : (upd HA q2 (.tup [.str "mark", .int 200])) q2 = some (.tup [.str "mark", .int 200]) := upd_same
    generalize upd HA q2 (.tup [.str "mark", .int 200]) = HC at *
    refine ⟨.tuple [.str "mark", .int 200], .tuple [.str "mark", .int 200], .tup (SqT.of (sB _ _ hp)) (.cons (.str _) (.cons (.int _) .nil)), .tup (SqT.of eB) (.cons (.str _) (.cons (.int _) .nil)), sh_two _ mark_ok, sh_two _ mark_ok, _, rfl, ?_⟩
    rw [PySem.SeqAt.eqv_refl _ (can_two _ mark_ok)]
    refine iteF ?_
    have x8 := x7.same (sA.trans sB)
    have sn8 := sn7.same (sA.trans sB)
    have hB8 := hB7.kp fun u z => (sA.trans sB) _ _ z
    clear x6 x7 sn6 sn7 hB6 hB7 s7 sn1 sA sB eB hp hq2 np1
    -- None
    refine ⟨_, rfl, N1, u, ms, ls, 200, ts, 0, .non, .int 0, "mark", .non, rfl, x8, .inl ⟨rfl, .inl ⟨.non, rfl⟩⟩, fun p' HD sD hp' => ?_⟩
    refine ⟨(by show 2 ≤ sizeLine; decide), fun q3 hq3 => ?_⟩
    have sE := same_new (o := .tup [.str "mark", .non]) hq3
    have eE : (upd HD q3 (.tup [.str "mark", .non])) q3 = some (.tup [.str "mark", .non]) := upd_same
    generalize upd HD q3 (.tup [.str "mark", .non]) = HF at *
    refine ⟨.tuple [.str "mark", .none], .tuple [.str "mark", .none], .tup (SqT.of (sE _ _ hp')) (.cons (.str _) (.cons .non .nil)), .tup (SqT.of eE) (.cons (.str _) (.cons .non .nil)), sh_twoN mark_ok, sh_twoN mark_ok, _, rfl, ?_⟩
    rw [PySem.SeqAt.eqv_refl _ (can_twoN mark_ok)]
    refine iteF ?_
    have x9 := x8.same (sD.trans sE)
    have sn9 := sn8.same (sD.trans sE)
    have hB9 := hB8.kp fun u z => (sD.trans sE) _ _ z
    refine ⟨_, rfl, N1, u, ms, ls, 200, ts, rfl, x9, fun p2 HG np2 sG sn2 => ?_⟩
    refine ⟨_, rfl, _, _, sn2.dp, (sn9.same sG).dp, sh_seen _ _ _, sh_seen _ _ _, _, rfl, ?_⟩
    rw [PySem.SeqAt.eqv_refl _ (can_seen _ _ _)]
    refine iteF ?_
    have x10 := x9.same sG
    have hB10 := hB9.kp fun u z => sG _ _ z
    clear x8 x9 sn8 sn9 hB8 hB9 sD sE sG eE hp' hq3 np2 sn2
    -- one is dropped
    obtain ⟨dx, fs, xi, nl⟩ := x10.ins
    refine ⟨_, rfl, u, dx, fs, rfl, xi, nl _ (by decide), _, rfl, b, 200, m + 1, rfl, hB10, by omega, by decide, by decide, fun d HI d0 d1 hBI kI => ?_⟩
    have xI := x10.kp (H' := HI) fun c u hc z => (kI c (fun e => nb1 (e ▸ hc))).trans z
    obtain ⟨d', rfl⟩ : ∃ d' : Nat, d = d' := ⟨d.toNat, by omega⟩
    obtain ⟨i, hi⟩ := has d' (by omega)
    have il : i < ms.length := by
      by_cases z : i < ms.length
      · exact z
      · rw [List.getElem?_eq_none (by omega)] at hi
        cases hi
    refine ⟨N1, u, ms, ls, 200, ts, i, d', rfl, xI, hi, by omega, fun HJ xJ kJ => ?_⟩
    have hBJ := hBI.kp fun u z => kJ _ _ nb1 z
    have ml2 : (ms.eraseIdx i).length = 199 := by
      rw [er_len il, hml]
    generalize ms.eraseIdx i = ms2 at xJ ml2
    generalize ls.eraseIdx i = ls2 at xJ
    clear x10 xI hB10 hBI kI kJ xi nl
    obtain ⟨dx, fs, xi, nl⟩ := xJ.ins
    -- one is put in its stead
    refine ⟨_, rfl, u, dx, fs, rfl, xi, nl _ (by decide), _, rfl, u, dx, fs, rfl, xi, nl _ (by decide), N1, u, ms2, ls2, 200, ts, rfl, xJ, fun pm HL nm sL hpm => ?_⟩
    have xL := xJ.same sL
    have hBL := hBJ.kp fun u z => sL _ _ z
    refine ⟨_, rfl, b, 199, m + 1 + 1, rfl, hBL, by omega, by decide, by decide, fun e HM e0 e1 hBM kM => ?_⟩
    have xM := xL.kp (H' := HM) fun c u hc z => (kM c (fun e => nb1 (e ▸ hc))).trans z
    obtain ⟨e', rfl⟩ : ∃ e' : Nat, e = e' := ⟨e.toNat, by omega⟩
    have he : ms2[e']? = some ms2[e'] := List.getElem?_eq_getElem (by omega)
    generalize ms2[e'] = k at he
    refine ⟨pm, _, _, num k, rfl, rfl, SqL.of ((kM _ (box_nl hBL hpm)).trans hpm), atI_nat (by rw [List.getElem?_map, he]; rfl), ?_⟩
    refine ⟨N1, u, ms2, ls2, 200, ts, e', k, rfl, xM, he, by omega, by decide, fun HN xN kN => ?_⟩
    refine ⟨rfl, _, rfl, ?_⟩
    refine ite2 (fun _ => ?_) (fun z => absurd (decide_eq_true rfl) z)
    obtain ⟨dx, fs, xi, nl⟩ := xN.ins
    have l2 : (inl ms2 (e' + 1) 200).length = 200 := by rw [inl_len (by omega), ml2]
    refine ⟨_, rfl, u, dx, fs, rfl, xi, nl _ (by decide), N1, u, _, _, _, _, rfl, xN, rfl, ?_⟩
    rw [show decide (num (inl ms2 (e' + 1) 200).length = V.int 200) = true from decide_eq_true (by rw [l2]; rfl)]
    exact q HN
end
end K15
namespace K15
open PySem PySem.Spec PyProof.Rows L2 Gd Gx Ge
open C8 (clsBody Met pe_mt pe_mt0)
theorem seqIx {n : Nat} {i : Nat} (h : i < n) : seqIndex? ((i : Nat) : Int) n = some i := by
  unfold seqIndex?
  simp
  omega
theorem ins_inl {ms : List Nat} {i g : Nat} : ((ms.map num).take (((i : Nat) : Int) + 1).toNat ++ [num g] ++ (ms.map num).drop (((i : Nat) : Int) + 1).toNat) = (inl ms (i + 1) g).map num := by
  rw [inl_map, show (((i : Nat) : Int) + 1).toNat = i + 1 from by omega]
  rfl
section
variable {P : Program} {w : World} {K : PySem.W.Frag} {mg : Str → Option Value} {base : Heap} {C : Addr}
def spLaw (K : PySem.W.Frag) : Sp := fun vs H Q _ => ∃ (a : Addr) (ns : List Int), vs = [.ref a] ∧ SqL K H a (ns.map V.int) ∧ ns.length ≤ 63 ∧ ∀ H', Q (.bl true) H'
theorem ok_law {fO : Addr} {fdO : FuncData} (T : Txt K mg) {f : Addr} {fd : FuncData} (F : Fun K "law" "law" s_law f fd) (cO : mg "Order" = some (.ref C)) (M_Order : Mk K C fO) (B_Order : Binds K fdO ["self"] []) (G_Order : FnOk P w K mg base CX0 1 fO fdO ["self"] (spInit C)) (m_behind : Met P w K mg base 3 C "behind" (spBehind C) []) (m_drop : Met P w K mg base 3 C "drop" (spDrop C) []) (c__law_cell_at : CalG P w K mg base 1 "_law_cell_at" (Gd.spCell K)) (c__law_box : CalG P w K mg base 1 "_law_box" spBoxD) (c__law_take : CalG P w K mg base 1 "_law_take" spTakeD) (c__law_right : CalG P w K mg base 7 "_law_right" (spRight C)) (c__law_full_right : CalG P w K mg base 7 "_law_full_right" spFR) : FnG P w K mg base CX0 8 f fd ["_law_script"] (spLaw K) := by
  refine okG F sc_law (fun vs H Q E h => ?_) (fun cdv A outer s H vs Q E hG hr h => ?_)
  · obtain ⟨a, ns, rfl, _⟩ := h
    rfl
  · obtain ⟨a, ns, rfl, hS, hl, q⟩ := h
    refine ⟨_, (pss_cons (ps_set (i := 1) sc_law.nd rfl (Or.inl rfl) (pe_make0 M_Order G_Order (hr.mono (by decide)) rfl cO B_Order .nil pass0))
      (pss_cons (ps_set (i := 2) sc_law.nd rfl (Or.inl rfl) (pe_lst (pa_cons pe_int pa_nil)))
      (pss_cons (ps_set (i := 3) sc_law.nd rfl (Or.inl rfl) (pe_lst pa_nil))
      (pss_cons (ps_set (i := 4) sc_law.nd rfl (Or.inl rfl) pe_int)
      (pss_cons (ps_for PassesOwn.never rfl (pi_range1 rfl T.b_range (pa_cons (pe_callB (call_max2 rfl) (by rfl) T.b_max boot_max_ (pa_cons pe_int (pa_cons (pe_callB (call_min2 rfl) (by rfl) T.b_min boot_min_ (pa_cons pe_int (pa_cons (pe_callB call_len (by rfl) T.b_len boot_len_ (pa_cons (pv 0) pa_nil)) pa_nil))) pa_nil))) pa_nil)) (pg_name (i := 5) sc_law.nd rfl (Or.inl rfl))
          (pss_cons (ps_set (i := 6) sc_law.nd rfl (Or.inl rfl) (pe_g c__law_box hG (hr.mono (by decide)) (by rfl) (pa_cons (pe_g c__law_cell_at hG (hr.mono (by decide)) (by rfl) (pa_cons (pv 0) (pa_cons (pv 5) pa_nil))) pa_nil)))
          (pss_cons (ps_set (i := 7) sc_law.nd rfl (Or.inl rfl) (pe_cmpR op_eq (pe_g c__law_take hG (hr.mono (by decide)) (by rfl) (pa_cons (pv 6) (pa_cons pe_int pa_nil))) pe_int (nomark _)))
          (pss_cons (ps_set (i := 8) sc_law.nd rfl (Or.inl rfl) (pe_g c__law_take hG (hr.mono (by decide)) (by rfl) (pa_cons (pv 6) (pa_cons (pe_callB call_len (by rfl) T.b_len boot_len_ (pa_cons (pv 2) pa_nil)) pa_nil))))
          (pss_cons (ps_expr (pe_bm PySem.F.plainAttrs_list PySem.F.slot_list_insert PySem.F.type_list_insert mt_insert (pv 2) (pa_cons (pe_op op_add (pv 8) pe_int) (pa_cons (pe_mt m_behind hr (by decide) (pv 1) (pa_cons (pe_ix ix_list (pv 2) (pv 8) (fun _ _ => rfl)) pa_nil)) pa_nil))))
          (pss_cons (ps_set (i := 4) sc_law.nd rfl (Or.inl rfl) (pe_op op_add (pv 4) pe_int))
          (pss_cons (ps_if (pt_val (pv 7))
              (pss_cons (ps_expr (pe_bm PySem.F.plainAttrs_list PySem.F.slot_list_append PySem.F.type_list_append mt_append (pv 3) (pa_cons (pe_bm PySem.F.plainAttrs_list PySem.F.slot_list_pop PySem.F.type_list_pop mt_popAt (pv 2) (pa_cons (pv 8) pa_nil)) pa_nil)))
              (pss_one (ps_expr (pe_mt m_drop hr (by decide) (pv 1) (pa_cons (pe_ix ix_list (pv 3) (pe_un un_neg pe_int) (fun _ _ => rfl)) pa_nil))))) pss_nil)
          (pss_one (ps_if (pt_not (pt_val (pe_g c__law_right hG (hr.mono (by decide)) (by rfl) (pa_cons (pv 6) (pa_cons (pv 1) (pa_cons (pv 2) (pa_cons (pv 3) (pa_cons (pv 4) pa_nil))))))))
              (pss_one (ps_ret pe_bl)) pss_nil)))))))))
      (pss_cons (ps_if (pt_cmpR op_eq (pe_op op_mod (pe_g c__law_cell_at hG (hr.mono (by decide)) (by rfl) (pa_cons (pv 0) (pa_cons pe_int pa_nil))) pe_int) pe_int (nomark _))
          (pss_one (ps_ret (pe_g c__law_full_right hG (hr.mono (by decide)) (by rfl) (pa_cons (pe_g c__law_box hG (hr.mono (by decide)) (by rfl) (pa_cons (pe_g c__law_cell_at hG (hr.mono (by decide)) (by rfl) (pa_cons (pv 0) (pa_cons pe_int pa_nil))) pa_nil)) pa_nil)))) pss_nil)
      (pss_one (ps_ret pe_bl)))))))), ?_⟩
    intro u du n1 n2 ne1
    refine ⟨u, du, rfl, upd_same, fun H1 N1 r1 k1 f1 => ⟨rfl, ?_⟩⟩
    have s1 : Same H H1 := fun c x z => k1 c x (ne_of_none z n1) (by rw [upd_ne (ne_of_none z n1), upd_ne (ne_of_none z n2)]; exact z)
    have g1 : ∀ c, N1 c → H c = none := fun c hc => by
      rcases f1 c hc with rfl | h
      · exact n1
      · exact none_of' (fun c x z => by rw [upd_ne (ne_of_none z n1), upd_ne (ne_of_none z n2)]; exact z) h
    have r1 := r1.cut
    refine ⟨(by show 1 ≤ sizeLine; decide), fun r hr1 => ?_⟩
    have s2 := same_new (o := .lst [.int 0]) hr1
    have er : (upd H1 r (.lst [.int 0])) r = some (.lst [.int 0]) := upd_same
    generalize upd H1 r (.lst [.int 0]) = H2 at *
    refine ⟨(by show 0 ≤ sizeLine; decide), fun g hg1 => ?_⟩
    have s3 := same_new (o := .lst []) hg1
    have eg : (upd H2 g (.lst [])) g = some (.lst []) := upd_same
    generalize upd H2 g (.lst []) = H3 at *
    have hr0 : H r = none := none_of' s1 hr1
    have hg0 : H g = none := none_of' (s1.trans s2) hg1
    have rg : r ≠ g := ne_of_none er hg1
    have s13 := s2.trans s3
    refine ⟨_, rfl, .ref a, _, rfl, .inl ⟨_, (s1.trans s13).seq hS, rfl⟩, _, _, rfl, _, _, rfl, _, rfl, ?_, ?_, ?_⟩
    · split <;> split <;> omega
    · split <;> split <;> omega
    refine for_range (lo := 0) (fun k σ H' => ∃ (N : Addr → Prop) (ms ls gs : List Nat) (ts : Nat) (y5 y6 y7 y8 : Option V), σ = [some (.ref a), some (.ref u), some (.ref r), some (.ref g), some (num (k + 1)), y5, y6, y7, y8] ∧ OrdA N H' u C ms ls (k + 1) ts ∧ H' r = some (.lst (ms.map num)) ∧ H' g = some (.lst (gs.map num)) ∧ ms.length ≤ k + 1 ∧ gs.length ≤ k ∧ (∀ x, x ∈ gs → x < k + 1 ∧ ∀ j : Nat, ms[j]? ≠ some x) ∧ ¬ N r ∧ ¬ N g ∧ (∀ c, N c → H' c ≠ none) ∧ (∀ c, N c → H c = none) ∧ Same H H' ∧ k ≤ 30)
      ⟨_, [0], _, [], 0, none, none, none, none, rfl, r1.same s13, s3 _ _ er, eg, by decide, by decide, (fun x hx => by cases hx), fun h => h.2 hr1, fun h => h.2 (none_of' s2 hg1), fun c h e => h.2 (none_of' s13 e), fun c h => g1 c h.1, s1.trans s13, by omega⟩ (fun k σ H4 hk hP => ?_) (fun σ H4 hP => ?_)
    · obtain ⟨N, ms, ls, gs, ts, y5, y6, y7, y8, rfl, x, hr4, hg4, hml, hgl, hgs, nr, ng, al, f0, sm, _⟩ := hP
      have hk30 : k < 30 := by
        revert hk
        split <;> split <;> omega
      have ok := x.ok
      have hpos := ok.pos
      have hlm : (ms.map num).length = ms.length := List.length_map _
      refine ⟨_, rfl, _, rfl, a, ns, _, rfl, sm.seq hS, hl, by omega, fun z => ⟨z, rfl, fun b H5 hb hB kb => ?_⟩⟩
      have nb : ¬ N b := fun h => al b h hb
      have fb : H b = none := none_of' sm hb
      have k45 : ∀ c u, c ≠ b → H4 c = some u → H5 c = some u := fun c u hc z => (kb c hc).trans z
      have rb : r ≠ b := ne_of_none hr4 hb
      have gb : g ≠ b := ne_of_none hg4 hb
      refine ⟨_, rfl, b, 8, 0, rfl, hB, by decide, by decide, by decide, fun dr H6 d0 d1 hB6 k6 => ⟨rfl, ?_⟩⟩
      have k46 : ∀ c u, c ≠ b → H4 c = some u → H6 c = some u := fun c u hc z => (k6 c hc).trans (k45 c u hc z)
      generalize decide (V.int dr = V.int 0) = drb
      refine ⟨_, rfl, _, rfl, .ref r, _, rfl, .inl ⟨_, SqL.of (k46 _ _ rb hr4), rfl⟩, b, (((ms.map num).length : Nat) : Int), 0 + 1, rfl, hB6, by decide, by omega, by omega, fun at0 H7 a0 a1 hB7 k7 => ?_⟩
      have k47 : ∀ c u, c ≠ b → H4 c = some u → H7 c = some u := fun c u hc z => (k7 c hc).trans (k46 c u hc z)
      have x7 := x.kp (H' := H7) fun c u hc z => k47 c u (fun e => nb (e ▸ hc)) z
      obtain ⟨i, rfl⟩ : ∃ i : Nat, at0 = i := ⟨at0.toNat, by omega⟩
      have hil : i < ms.length := by omega
      have hi : ms[i]? = some ms[i] := List.getElem?_eq_getElem hil
      generalize ms[i] = kk at hi
      obtain ⟨dx, fs, xi, nl⟩ := x7.ins
      have hr7 := k47 _ _ rb hr4
      have hg7 := k47 _ _ gb hg4
      refine ⟨_, rfl, .inl ⟨rfl, _, SqL.of hr7⟩, _, rfl, _, _, rfl, rfl, ?_⟩
      refine ⟨_, rfl, u, dx, fs, rfl, xi, nl _ (by decide), _, rfl, _, rfl, r, _, _, num kk, rfl, rfl, SqL.of hr7, atI_nat (by rw [List.getElem?_map, hi]; rfl), ?_⟩
      refine ⟨N, u, ms, ls, k + 1, ts, i, kk, rfl, x7, hi, by omega, by omega, fun H8 x8 k8 => ?_⟩
      refine ⟨r, _, _, _, rfl, rfl, k8 _ _ nr hr7, small1000 (by omega), by omega, by omega, ?_⟩
      rw [ins_inl]
      have er9 : (upd H8 r (.lst ((inl ms (i + 1) (k + 1)).map num))) r = some (.lst ((inl ms (i + 1) (k + 1)).map num)) := upd_same
      have k9 : ∀ c u, c ≠ r → H8 c = some u → (upd H8 r (.lst ((inl ms (i + 1) (k + 1)).map num))) c = some u := fun c u hc z => by
        rw [upd_ne hc]
        exact z
      generalize upd H8 r (.lst ((inl ms (i + 1) (k + 1)).map num)) = H9 at *
      have x9 := x8.kp (H' := H9) fun c u hc z => k9 c u (fun e => nr (e ▸ hc)) z
      have hg9 := k9 _ _ rg.symm (k8 _ _ ng hg7)
      have hB9 : BoxD H9 b (0 + 1 + 1) := hB7.kp fun u z => k9 b u rb.symm (k8 _ _ nb z)
      have sm9 : Same H H9 := fun c v z => k9 _ _ (ne_of_none z hr0) (k8 _ _ (fun h => by rw [f0 c h] at z; cases z) (k47 _ _ (ne_of_none z fb) (sm _ _ z)))
      have ml9 : (inl ms (i + 1) (k + 1)).length = ms.length + 1 := inl_len (by omega)
      have hgs9 : ∀ x, x ∈ gs → x < k + 1 + 1 ∧ ∀ j : Nat, (inl ms (i + 1) (k + 1))[j]? ≠ some x := fun y hy => by
        obtain ⟨p1, p2⟩ := hgs y hy
        refine ⟨by omega, fun j hj => ?_⟩
        rw [inl_at (by omega)] at hj
        split at hj
        · exact p2 _ hj
        · split at hj
          · have := Option.some.inj hj
            omega
          · exact p2 _ hj
      have hi9 : (inl ms (i + 1) (k + 1))[i]? = some kk := by rw [inl_at (by omega), if_pos (by omega)]; exact hi
      generalize inl ms (i + 1) (k + 1) = ms9 at *
      generalize inl (readyL ls i) (i + 1) (midL ls i) = ls9 at *
      generalize readyT ls i ts = ts9 at *
      clear x7 x8 xi nl hr7 hg7 k8 k47 k46 k45 k6 k7 hB6 hB7 hB kb k9 x hr4 hg4 ok hgs hi
      refine ⟨_, rfl, _, _, rfl, rfl, ?_⟩
      have hgs0 : ∀ x, x ∈ gs → x < k + 1 + 1 ∧ ∀ j : Nat, ms9[j]? ≠ some x := hgs9
      rcases drb with _ | _
      focus
        refine ⟨_, rfl, _, rfl, iteF ?_⟩
        refine ⟨_, rfl, _, rfl, _, rfl, _, rfl, _, rfl, N, b, u, r, g, ms9, ls9, gs, k + 1 + 1, ts9, 0 + 1 + 1, rfl, hB9, by decide, x9, nb, er9, hg9, by omega, by omega, (fun y hy => (hgs0 y hy).2), fun H13 hB13 k13 => ⟨_, rfl, iteF ?_⟩⟩
        have x13 := x9.kp (H' := H13) fun c u hc z => k13 c u (fun e => nb (e ▸ hc)) z
        exact ⟨_, ms9, ls9, gs, ts9, _, _, _, _, rfl, x13.cut, k13 _ _ rb er9, k13 _ _ gb hg9, (by omega), (by omega), hgs0, fun h => nr h.1, fun h => ng h.1, fun c h => h.2, fun c h => f0 c h.1, fun c v z => k13 _ _ (ne_of_none z fb) (sm9 _ _ z), by omega⟩
      rotate_left
      focus
        refine ⟨_, rfl, _, rfl, iteT ?_⟩
        refine ⟨_, rfl, .inl ⟨rfl, _, SqL.of hg9⟩, _, rfl, .inl ⟨rfl, _, SqL.of er9⟩, _, rfl, r, _, ((i : Nat) : Int), i, num kk, rfl, rfl, er9, by omega, by omega, seqIx (by rw [List.length_map]; omega), (by rw [List.getElem?_map, hi9]; rfl), ?_⟩
        rw [er_map]
        have er10 : (upd H9 r (.lst ((ms9.eraseIdx i).map num))) r = some (.lst ((ms9.eraseIdx i).map num)) := upd_same
        have k10 : ∀ c u, c ≠ r → H9 c = some u → (upd H9 r (.lst ((ms9.eraseIdx i).map num))) c = some u := fun c u hc z => by
          rw [upd_ne hc]
          exact z
        generalize upd H9 r (.lst ((ms9.eraseIdx i).map num)) = H10 at *
        have hg10 := k10 _ _ rg.symm hg9
        refine ⟨g, _, _, rfl, rfl, hg10, small1000 (by rw [List.length_map]; omega), ?_⟩
        have egs : (gs.map num ++ [num kk]) = (gs ++ [kk]).map num := by rw [List.map_append]; rfl
        have k11 : ∀ c u, c ≠ g → H10 c = some u → (upd H10 g (.lst (gs.map num ++ [num kk]))) c = some u := fun c u hc z => by
          rw [upd_ne hc]
          exact z
        have eg11 : (upd H10 g (.lst (gs.map num ++ [num kk]))) g = some (.lst (gs.map num ++ [num kk])) := upd_same
        generalize upd H10 g (.lst (gs.map num ++ [num kk])) = H11 at *
        have x11 := x9.kp (H' := H11) fun c u hc z => k11 c u (fun e => ng (e ▸ hc)) (k10 c u (fun e => nr (e ▸ hc)) z)
        obtain ⟨dx, fs, xi, nl⟩ := x11.ins
        refine ⟨_, rfl, u, dx, fs, rfl, xi, nl _ (by decide), _, rfl, _, rfl, g, _, _, num kk, rfl, rfl, SqL.of eg11, atI_last _ _, ?_⟩
        refine ⟨N, u, ms9, ls9, k + 1 + 1, ts9, i, kk, rfl, x11, hi9, by omega, fun H12 x12 k12 => ?_⟩
        have hr12 := k12 _ _ nr (k11 _ _ rg er10)
        have hg12 : H12 g = some (.lst ((gs ++ [kk]).map num)) := by
          rw [← egs]
          exact k12 _ _ ng eg11
        have hB12 : BoxD H12 b (0 + 1 + 1) := hB9.kp fun u z => k12 b u nb (k11 b u gb.symm (k10 b u rb.symm z))
        have sm12 : Same H H12 := fun c v z => k12 _ _ (fun h => by rw [f0 c h] at z; cases z) (k11 _ _ (ne_of_none z hg0) (k10 _ _ (ne_of_none z hr0) (sm9 _ _ z)))
        have ok9 := x9.ok
        have hml12 : (ms9.eraseIdx i).length ≤ k + 1 + 1 := by
          rw [er_len (by omega)]
          omega
        have hgl12 : (gs ++ [kk]).length ≤ k + 1 := by
          rw [List.length_append]
          show gs.length + 1 ≤ k + 1
          omega
        have hgs12 : ∀ x, x ∈ gs ++ [kk] → x < k + 1 + 1 ∧ ∀ j : Nat, (ms9.eraseIdx i)[j]? ≠ some x := fun y hy => by
          rcases List.mem_append.mp hy with hy | hy
          · obtain ⟨p1, p2⟩ := hgs0 y hy
            refine ⟨p1, fun j hj => ?_⟩
            rw [er_at] at hj
            split at hj
            · exact p2 _ hj
            · exact p2 _ hj
          · obtain rfl := List.mem_singleton.mp hy
            refine ⟨ok9.lt _ _ hi9, fun j hj => ?_⟩
            rw [er_at] at hj
            split at hj
            · have := ok9.nd _ _ _ hj hi9
              omega
            · have := ok9.nd _ _ _ hj hi9
              omega
        generalize ms9.eraseIdx i = ms12 at *
        generalize ls9.eraseIdx i = ls12 at *
        generalize gs ++ [kk] = gs12 at *
        refine ⟨_, rfl, _, rfl, _, rfl, _, rfl, _, rfl, N, b, u, r, g, ms12, ls12, gs12, k + 1 + 1, ts9, 0 + 1 + 1, rfl, hB12, by decide, x12, nb, hr12, hg12, by omega, by omega, (fun y hy => (hgs12 y hy).2), fun H13 hB13 k13 => ⟨_, rfl, iteF ?_⟩⟩
        have x13 := x12.kp (H' := H13) fun c u hc z => k13 c u (fun e => nb (e ▸ hc)) z
        exact ⟨_, ms12, ls12, gs12, ts9, _, _, _, _, rfl, x13.cut, k13 _ _ rb hr12, k13 _ _ gb hg12, hml12, hgl12, hgs12, fun h => nr h.1, fun h => ng h.1, fun c h => h.2, fun c h => f0 c h.1, fun c v z => k13 _ _ (ne_of_none z fb) (sm12 _ _ z), by omega⟩
    · obtain ⟨N, ms, ls, gs, ts, y5, y6, y7, y8, rfl, x, hr4, hg4, hml, hgl, hgs, nr, ng, al, f0, sm, _⟩ := hP
      refine ⟨_, rfl, a, ns, _, rfl, sm.seq hS, hl, by omega, fun z => ?_⟩
      refine ⟨_, _, rfl, rfl, (by decide : (0 : Int) < 16), rfl, _, rfl, ite2 (fun _ => ?_) (fun _ => q _)⟩
      exact ⟨_, rfl, a, ns, _, rfl, sm.seq hS, hl, by omega, fun z2 => ⟨z2, rfl, fun b H5 hb hB kb => ⟨b, 0, rfl, hB, by decide, q⟩⟩⟩
end
end K15
set_option maxHeartbeats 0
namespace K15
open PySem PySem.Spec PyProof.Rows L2 Gd Gs Ge
open C8 (clsBody Met)
theorem exm_above {K : PySem.W.Frag} {S M : Addr} (up : PySem.W.subIn K (.ref S) (.ref M) = some true) (isC : PySem.W.isClsIn K M = true) (meta_ : PySem.W.typeIn K (.ref M) = some (.type "type"))
    (exc : PySem.W.subIn K (.ref M) (.type "BaseException") = some true) : PySem.W.exmOne K (.ref S) (.ref M) = some true := by
  unfold PySem.W.isClsIn at isC
  simp [PySem.W.exmOne, PySem.W.kitCls, exc, meta_, isC, up]
theorem kit_self {K : PySem.W.Frag} {S : Addr} : PySem.W.kitOne K (.ref S) (.ref S) = some true := by
  simp [PySem.W.kitOne]
theorem exm_self {K : PySem.W.Frag} {S : Addr} (isC : PySem.W.isClsIn K S = true) (meta_ : PySem.W.typeIn K (.ref S) = some (.type "type"))
    (exc : PySem.W.subIn K (.ref S) (.type "BaseException") = some true) (m : PySem.W.subIn K (.ref S) (.ref S) = some true) : PySem.W.exmOne K (.ref S) (.ref S) = some true := by
  unfold PySem.W.isClsIn at isC
  simp [PySem.W.exmOne, PySem.W.kitCls, exc, meta_, isC, m]
theorem kit_no {K : PySem.W.Frag} {A B : Addr} (n : (A == B) = false) (isC : PySem.W.isClsIn K B = true) (meta_ : PySem.W.typeIn K (.ref B) = some (.type "type")) (s : PySem.W.subIn K (.ref A) (.ref B) = some false) : PySem.W.kitOne K (.ref A) (.ref B) = some false := by
  have n2 : A ≠ B := fun e => by rw [e] at n; simp at n
  unfold PySem.W.isClsIn at isC
  simp [PySem.W.kitOne, PySem.W.kitCls, n2, s, isC, meta_]
theorem ns_ok {K : PySem.W.Frag} {N : Addr} {c : Value} {d : Option Addr} {es : List DictEntry} {n : Nat} {sl : Array (Option Value)} (y : K.lookup N = some ⟨c, d, .dict es.toArray n, sl⟩) (e : (es.all fun e => match e.key with | .str _ _ => true | _ => false) = true) : PySem.W.nsOkIn K N = true := by
  unfold PySem.W.nsOkIn
  rw [y]
  show (es.toArray.all _) = true
  rw [List.all_toArray]
  exact e
theorem kit_ty {K : PySem.W.Frag} {A : Addr} {T : String} {b : Bool} (m : PySem.W.kitMeta T = true) (s : PySem.W.subIn K (.ref A) (.type T) = some b) : PySem.W.kitOne K (.ref A) (.type T) = some b := by
  have n : ((Value.ref A == Value.type T) = false) := by rfl
  simp [PySem.W.kitOne, PySem.W.kitCls, n, m, s]
theorem all_mk {l : PySem.W.OpenLaw} {w : World} {K : PySem.W.Frag} {h : Heap} {mg : Str → Option Value} {fa : Addr} (X : K.In h) (G : h.Ns mainGlobals mg) (hfa : mg "law" = some (.ref fa))
    {f0 : Addr}
    {od0 an0 : Option Addr}
    {sl0 : Array (Option Value)}
    {oc0 kV0 dc0 pm0 cd0 ct0 : Value}
    {f1 : Addr}
    {od1 an1 : Option Addr}
    {sl1 : Array (Option Value)}
    {oc1 kV1 dc1 pm1 cd1 ct1 : Value}
    {f2 : Addr}
    {od2 an2 : Option Addr}
    {sl2 : Array (Option Value)}
    {oc2 kV2 dc2 pm2 cd2 ct2 : Value}
    {f3 : Addr}
    {od3 an3 : Option Addr}
    {sl3 : Array (Option Value)}
    {oc3 kV3 dc3 pm3 cd3 ct3 : Value}
    {f4 : Addr}
    {od4 an4 : Option Addr}
    {sl4 : Array (Option Value)}
    {oc4 kV4 dc4 pm4 cd4 ct4 : Value}
    {f5 : Addr}
    {od5 an5 : Option Addr}
    {sl5 : Array (Option Value)}
    {oc5 kV5 dc5 pm5 cd5 ct5 : Value}
    {f6 : Addr}
    {od6 an6 : Option Addr}
    {sl6 : Array (Option Value)}
    {oc6 kV6 dc6 pm6 cd6 ct6 : Value}
    {f7 : Addr}
    {od7 an7 : Option Addr}
    {sl7 : Array (Option Value)}
    {oc7 kV7 dc7 pm7 cd7 ct7 : Value}
    {f8 : Addr}
    {od8 an8 : Option Addr}
    {sl8 : Array (Option Value)}
    {oc8 kV8 dc8 pm8 cd8 ct8 : Value}
    {f9 : Addr}
    {od9 an9 : Option Addr}
    {sl9 : Array (Option Value)}
    {oc9 kV9 dc9 pm9 cd9 ct9 : Value}
    {f10 : Addr}
    {od10 an10 : Option Addr}
    {sl10 : Array (Option Value)}
    {oc10 kV10 dc10 pm10 cd10 ct10 : Value}
    {t_MOST_MARKS : Tok}
    {t_LABELS : Tok}
    {CO : Addr}
    {f_CO_many : Addr}
    {od_CO_many an_CO_many : Option Addr}
    {sl_CO_many : Array (Option Value)}
    {oc_CO_many kV_CO_many dc_CO_many pm_CO_many cd_CO_many ct_CO_many : Value}
    {f_CO_need_mark : Addr}
    {od_CO_need_mark an_CO_need_mark : Option Addr}
    {sl_CO_need_mark : Array (Option Value)}
    {oc_CO_need_mark kV_CO_need_mark dc_CO_need_mark pm_CO_need_mark cd_CO_need_mark ct_CO_need_mark : Value}
    {f_CO_label : Addr}
    {od_CO_label an_CO_label : Option Addr}
    {sl_CO_label : Array (Option Value)}
    {oc_CO_label kV_CO_label dc_CO_label pm_CO_label cd_CO_label ct_CO_label : Value}
    {f_CO_ahead : Addr}
    {od_CO_ahead an_CO_ahead : Option Addr}
    {sl_CO_ahead : Array (Option Value)}
    {oc_CO_ahead kV_CO_ahead dc_CO_ahead pm_CO_ahead cd_CO_ahead ct_CO_ahead : Value}
    {f_CO_label_at : Addr}
    {od_CO_label_at an_CO_label_at : Option Addr}
    {sl_CO_label_at : Array (Option Value)}
    {oc_CO_label_at kV_CO_label_at dc_CO_label_at pm_CO_label_at cd_CO_label_at ct_CO_label_at : Value}
    {f_CO_marks : Addr}
    {od_CO_marks an_CO_marks : Option Addr}
    {sl_CO_marks : Array (Option Value)}
    {oc_CO_marks kV_CO_marks dc_CO_marks pm_CO_marks cd_CO_marks ct_CO_marks : Value}
    {f_CO_anew : Addr}
    {od_CO_anew an_CO_anew : Option Addr}
    {sl_CO_anew : Array (Option Value)}
    {oc_CO_anew kV_CO_anew dc_CO_anew pm_CO_anew cd_CO_anew ct_CO_anew : Value}
    {f_CO_label_anew : Addr}
    {od_CO_label_anew an_CO_label_anew : Option Addr}
    {sl_CO_label_anew : Array (Option Value)}
    {oc_CO_label_anew kV_CO_label_anew dc_CO_label_anew pm_CO_label_anew cd_CO_label_anew ct_CO_label_anew : Value}
    {f_CO_behind : Addr}
    {od_CO_behind an_CO_behind : Option Addr}
    {sl_CO_behind : Array (Option Value)}
    {oc_CO_behind kV_CO_behind dc_CO_behind pm_CO_behind cd_CO_behind ct_CO_behind : Value}
    {f_CO_drop : Addr}
    {od_CO_drop an_CO_drop : Option Addr}
    {sl_CO_drop : Array (Option Value)}
    {oc_CO_drop kV_CO_drop dc_CO_drop pm_CO_drop cd_CO_drop ct_CO_drop : Value}
    {f_CO_init : Addr}
    {od_CO_init an_CO_init : Option Addr}
    {sl_CO_init : Array (Option Value)}
    {oc_CO_init kV_CO_init dc_CO_init pm_CO_init cd_CO_init ct_CO_init : Value}
    {nmT qT : Str}
    {NT : Addr}
    {bsT subT : List Value}
    {hdT abT : Bool}
    {snT : List Str}
    {colT : Option Bool}
    {ddT : Option Addr}
    {m0T m1T m2T m3T m5T : Option Value}
    {niT : String}
    {cnT : Value}
    {dnT : Option Addr}
    {enT : List DictEntry}
    {nnT : Nat}
    {slnT : Array (Option Value)}
    {CE : Addr}
    {nmN qN fileN : Str} {CN fN NN cdaN ccN : Addr} {bsN subN : List Value} {snN : List Str} {abN : Bool} {colN : Option Bool} {ddN odN anN cddN cldN : Option Addr} {m0N m1N m2N m3N m5N : Option Value} {ocN dcN pmN ctN cclN clN : Value} {slN ccsN cslN : Array (Option Value)} {vsN : Array Value} {tfN : Tok} {kdN : Nat} {r1N r2N p1N p2N p3N p4N p5N p6N q1N q2N q3N q4N : Pos}
    {nmM qM fileM : Str} {CM fM NM cdaM ccM : Addr} {bsM subM : List Value} {snM : List Str} {abM : Bool} {colM : Option Bool} {ddM odM anM cddM cldM : Option Addr} {m0M m1M m2M m3M m5M : Option Value} {ocM dcM pmM ctM cclM clM : Value} {slM ccsM cslM : Array (Option Value)} {vsM : Array Value} {tfM : Tok} {kdM : Nat} {r1M r2M p1M p2M p3M p4M p5M p6M q1M q2M q3M q4M : Pos}
    {CA : Addr}
    (a0 : PySem.W.nsIn K mainGlobals "is_whole" = some (some (.ref f0)))
    (l0 : K.lookup f0 = some ⟨oc0, od0, .func (PySem.W.fnOf "is_whole" "is_whole" (defArgs s_is_whole) (defBody s_is_whole) (defScope s_is_whole) .none kV0 dc0 pm0 an0 cd0 ct0), sl0⟩)
    (c0 : PySem.W.codeIn K cd0 "is_whole" = true)
    (k0 : PySem.W.keepIn K (.ref f0) = true)
    (a1 : PySem.W.nsIn K mainGlobals "_law_cell_at" = some (some (.ref f1)))
    (l1 : K.lookup f1 = some ⟨oc1, od1, .func (PySem.W.fnOf "_law_cell_at" "_law_cell_at" (defArgs s__law_cell_at) (defBody s__law_cell_at) (defScope s__law_cell_at) .none kV1 dc1 pm1 an1 cd1 ct1), sl1⟩)
    (c1 : PySem.W.codeIn K cd1 "_law_cell_at" = true)
    (k1 : PySem.W.keepIn K (.ref f1) = true)
    (a2 : PySem.W.nsIn K mainGlobals "_law_box" = some (some (.ref f2)))
    (l2 : K.lookup f2 = some ⟨oc2, od2, .func (PySem.W.fnOf "_law_box" "_law_box" (defArgs s__law_box) (defBody s__law_box) (defScope s__law_box) .none kV2 dc2 pm2 an2 cd2 ct2), sl2⟩)
    (c2 : PySem.W.codeIn K cd2 "_law_box" = true)
    (k2 : PySem.W.keepIn K (.ref f2) = true)
    (a3 : PySem.W.nsIn K mainGlobals "_law_take" = some (some (.ref f3)))
    (l3 : K.lookup f3 = some ⟨oc3, od3, .func (PySem.W.fnOf "_law_take" "_law_take" (defArgs s__law_take) (defBody s__law_take) (defScope s__law_take) .none kV3 dc3 pm3 an3 cd3 ct3), sl3⟩)
    (c3 : PySem.W.codeIn K cd3 "_law_take" = true)
    (k3 : PySem.W.keepIn K (.ref f3) = true)
    (a4 : PySem.W.nsIn K mainGlobals "_law_call" = some (some (.ref f4)))
    (l4 : K.lookup f4 = some ⟨oc4, od4, .func (PySem.W.fnOf "_law_call" "_law_call" (defArgs s__law_call) (defBody s__law_call) (defScope s__law_call) .none kV4 dc4 pm4 an4 cd4 ct4), sl4⟩)
    (c4 : PySem.W.codeIn K cd4 "_law_call" = true)
    (k4 : PySem.W.keepIn K (.ref f4) = true)
    (a5 : PySem.W.nsIn K mainGlobals "_law_told" = some (some (.ref f5)))
    (l5 : K.lookup f5 = some ⟨oc5, od5, .func (PySem.W.fnOf "_law_told" "_law_told" (defArgs s__law_told) (defBody s__law_told) (defScope s__law_told) .none kV5 dc5 pm5 an5 cd5 ct5), sl5⟩)
    (c5 : PySem.W.codeIn K cd5 "_law_told" = true)
    (k5 : PySem.W.keepIn K (.ref f5) = true)
    (a6 : PySem.W.nsIn K mainGlobals "_law_seen" = some (some (.ref f6)))
    (l6 : K.lookup f6 = some ⟨oc6, od6, .func (PySem.W.fnOf "_law_seen" "_law_seen" (defArgs s__law_seen) (defBody s__law_seen) (defScope s__law_seen) .none kV6 dc6 pm6 an6 cd6 ct6), sl6⟩)
    (c6 : PySem.W.codeIn K cd6 "_law_seen" = true)
    (k6 : PySem.W.keepIn K (.ref f6) = true)
    (a7 : PySem.W.nsIn K mainGlobals "_law_odd" = some (some (.ref f7)))
    (l7 : K.lookup f7 = some ⟨oc7, od7, .func (PySem.W.fnOf "_law_odd" "_law_odd" (defArgs s__law_odd) (defBody s__law_odd) (defScope s__law_odd) .none kV7 dc7 pm7 an7 cd7 ct7), sl7⟩)
    (c7 : PySem.W.codeIn K cd7 "_law_odd" = true)
    (k7 : PySem.W.keepIn K (.ref f7) = true)
    (a8 : PySem.W.nsIn K mainGlobals "_law_right" = some (some (.ref f8)))
    (l8 : K.lookup f8 = some ⟨oc8, od8, .func (PySem.W.fnOf "_law_right" "_law_right" (defArgs s__law_right) (defBody s__law_right) (defScope s__law_right) .none kV8 dc8 pm8 an8 cd8 ct8), sl8⟩)
    (c8 : PySem.W.codeIn K cd8 "_law_right" = true)
    (k8 : PySem.W.keepIn K (.ref f8) = true)
    (a9 : PySem.W.nsIn K mainGlobals "_law_full_right" = some (some (.ref f9)))
    (l9 : K.lookup f9 = some ⟨oc9, od9, .func (PySem.W.fnOf "_law_full_right" "_law_full_right" (defArgs s__law_full_right) (defBody s__law_full_right) (defScope s__law_full_right) .none kV9 dc9 pm9 an9 cd9 ct9), sl9⟩)
    (c9 : PySem.W.codeIn K cd9 "_law_full_right" = true)
    (k9 : PySem.W.keepIn K (.ref f9) = true)
    (a10 : PySem.W.nsIn K mainGlobals "law" = some (some (.ref f10)))
    (l10 : K.lookup f10 = some ⟨oc10, od10, .func (PySem.W.fnOf "law" "law" (defArgs s_law) (defBody s_law) (defScope s_law) .none kV10 dc10 pm10 an10 cd10 ct10), sl10⟩)
    (c10 : PySem.W.codeIn K cd10 "law" = true)
    (k10 : PySem.W.keepIn K (.ref f10) = true)
    (z_len : PySem.W.nsIn K mainGlobals "len" = some none)
    (z_max : PySem.W.nsIn K mainGlobals "max" = some none)
    (z_min : PySem.W.nsIn K mainGlobals "min" = some none)
    (z_range : PySem.W.nsIn K mainGlobals "range" = some none)
    (z_repr : PySem.W.nsIn K mainGlobals "repr" = some none)
    (z_isinstance : PySem.W.nsIn K mainGlobals "isinstance" = some none)
    (z_enumerate : PySem.W.nsIn K mainGlobals "enumerate" = some none)
    (z_int : PySem.W.nsIn K mainGlobals "int" = some none)
    (z_bool : PySem.W.nsIn K mainGlobals "bool" = some none)
    (z_list : PySem.W.nsIn K mainGlobals "list" = some none)
    (z_dict : PySem.W.nsIn K mainGlobals "dict" = some none)
    (i_MOST_MARKS : PySem.W.nsIn K mainGlobals "MOST_MARKS" = some (some (.int 200 t_MOST_MARKS)))
    (i_LABELS : PySem.W.nsIn K mainGlobals "LABELS" = some (some (.int 1024 t_LABELS)))
    (z_ValueError : PySem.W.nsIn K mainGlobals "ValueError" = some none)
    (a_CO : PySem.W.nsIn K mainGlobals "Order" = some (some (.ref CO)))
    (pg_CO : PySem.W.plainGet K CO Str.empty = true)
    (hd_CO : PySem.W.hasDictIn K CO = true)
    (po_CO : PySem.W.plainOver K CO = true)
    (sa_CO : PySem.W.findIn K (.ref CO) "__setattr__" = some (some (.builtin "object.__setattr__")))
    (no_CO__marks : PySem.W.findIn K (.ref CO) "_marks" = some none)
    (no_CO__labels : PySem.W.findIn K (.ref CO) "_labels" = some none)
    (no_CO__given : PySem.W.findIn K (.ref CO) "_given" = some none)
    (no_CO__times : PySem.W.findIn K (.ref CO) "_times" = some none)
    (mk_CO : PySem.W.makesIn K CO = true)
    (kp_CO : PySem.W.keepIn K (.ref CO) = true)
    (m_CO_many : PySem.W.findIn K (.ref CO) "many" = some (some (.ref f_CO_many)))
    (l_CO_many : K.lookup f_CO_many = some ⟨oc_CO_many, od_CO_many, .func (PySem.W.fnOf "many" "Order.many" (defArgs s_Order_many) (defBody s_Order_many) (defScope s_Order_many) .none kV_CO_many dc_CO_many pm_CO_many an_CO_many cd_CO_many ct_CO_many), sl_CO_many⟩)
    (c_CO_many : PySem.W.codeIn K cd_CO_many "Order.many" = true)
    (k_CO_many : PySem.W.keepIn K (.ref f_CO_many) = true)
    (y_CO_many : PySem.W.isFn K (.ref f_CO_many) = true)
    (m_CO_need_mark : PySem.W.findIn K (.ref CO) "_need_mark" = some (some (.ref f_CO_need_mark)))
    (l_CO_need_mark : K.lookup f_CO_need_mark = some ⟨oc_CO_need_mark, od_CO_need_mark, .func (PySem.W.fnOf "_need_mark" "Order._need_mark" (defArgs s_Order__need_mark) (defBody s_Order__need_mark) (defScope s_Order__need_mark) .none kV_CO_need_mark dc_CO_need_mark pm_CO_need_mark an_CO_need_mark cd_CO_need_mark ct_CO_need_mark), sl_CO_need_mark⟩)
    (c_CO_need_mark : PySem.W.codeIn K cd_CO_need_mark "Order._need_mark" = true)
    (k_CO_need_mark : PySem.W.keepIn K (.ref f_CO_need_mark) = true)
    (y_CO_need_mark : PySem.W.isFn K (.ref f_CO_need_mark) = true)
    (m_CO_label : PySem.W.findIn K (.ref CO) "label" = some (some (.ref f_CO_label)))
    (l_CO_label : K.lookup f_CO_label = some ⟨oc_CO_label, od_CO_label, .func (PySem.W.fnOf "label" "Order.label" (defArgs s_Order_label) (defBody s_Order_label) (defScope s_Order_label) .none kV_CO_label dc_CO_label pm_CO_label an_CO_label cd_CO_label ct_CO_label), sl_CO_label⟩)
    (c_CO_label : PySem.W.codeIn K cd_CO_label "Order.label" = true)
    (k_CO_label : PySem.W.keepIn K (.ref f_CO_label) = true)
    (y_CO_label : PySem.W.isFn K (.ref f_CO_label) = true)
    (m_CO_ahead : PySem.W.findIn K (.ref CO) "ahead" = some (some (.ref f_CO_ahead)))
    (l_CO_ahead : K.lookup f_CO_ahead = some ⟨oc_CO_ahead, od_CO_ahead, .func (PySem.W.fnOf "ahead" "Order.ahead" (defArgs s_Order_ahead) (defBody s_Order_ahead) (defScope s_Order_ahead) .none kV_CO_ahead dc_CO_ahead pm_CO_ahead an_CO_ahead cd_CO_ahead ct_CO_ahead), sl_CO_ahead⟩)
    (c_CO_ahead : PySem.W.codeIn K cd_CO_ahead "Order.ahead" = true)
    (k_CO_ahead : PySem.W.keepIn K (.ref f_CO_ahead) = true)
    (y_CO_ahead : PySem.W.isFn K (.ref f_CO_ahead) = true)
    (m_CO_label_at : PySem.W.findIn K (.ref CO) "_label_at" = some (some (.ref f_CO_label_at)))
    (l_CO_label_at : K.lookup f_CO_label_at = some ⟨oc_CO_label_at, od_CO_label_at, .func (PySem.W.fnOf "_label_at" "Order._label_at" (defArgs s_Order__label_at) (defBody s_Order__label_at) (defScope s_Order__label_at) .none kV_CO_label_at dc_CO_label_at pm_CO_label_at an_CO_label_at cd_CO_label_at ct_CO_label_at), sl_CO_label_at⟩)
    (c_CO_label_at : PySem.W.codeIn K cd_CO_label_at "Order._label_at" = true)
    (k_CO_label_at : PySem.W.keepIn K (.ref f_CO_label_at) = true)
    (y_CO_label_at : PySem.W.isFn K (.ref f_CO_label_at) = true)
    (m_CO_marks : PySem.W.findIn K (.ref CO) "marks" = some (some (.ref f_CO_marks)))
    (l_CO_marks : K.lookup f_CO_marks = some ⟨oc_CO_marks, od_CO_marks, .func (PySem.W.fnOf "marks" "Order.marks" (defArgs s_Order_marks) (defBody s_Order_marks) (defScope s_Order_marks) .none kV_CO_marks dc_CO_marks pm_CO_marks an_CO_marks cd_CO_marks ct_CO_marks), sl_CO_marks⟩)
    (c_CO_marks : PySem.W.codeIn K cd_CO_marks "Order.marks" = true)
    (k_CO_marks : PySem.W.keepIn K (.ref f_CO_marks) = true)
    (y_CO_marks : PySem.W.isFn K (.ref f_CO_marks) = true)
    (m_CO_anew : PySem.W.findIn K (.ref CO) "anew" = some (some (.ref f_CO_anew)))
    (l_CO_anew : K.lookup f_CO_anew = some ⟨oc_CO_anew, od_CO_anew, .func (PySem.W.fnOf "anew" "Order.anew" (defArgs s_Order_anew) (defBody s_Order_anew) (defScope s_Order_anew) .none kV_CO_anew dc_CO_anew pm_CO_anew an_CO_anew cd_CO_anew ct_CO_anew), sl_CO_anew⟩)
    (c_CO_anew : PySem.W.codeIn K cd_CO_anew "Order.anew" = true)
    (k_CO_anew : PySem.W.keepIn K (.ref f_CO_anew) = true)
    (y_CO_anew : PySem.W.isFn K (.ref f_CO_anew) = true)
    (m_CO_label_anew : PySem.W.findIn K (.ref CO) "_label_anew" = some (some (.ref f_CO_label_anew)))
    (l_CO_label_anew : K.lookup f_CO_label_anew = some ⟨oc_CO_label_anew, od_CO_label_anew, .func (PySem.W.fnOf "_label_anew" "Order._label_anew" (defArgs s_Order__label_anew) (defBody s_Order__label_anew) (defScope s_Order__label_anew) .none kV_CO_label_anew dc_CO_label_anew pm_CO_label_anew an_CO_label_anew cd_CO_label_anew ct_CO_label_anew), sl_CO_label_anew⟩)
    (c_CO_label_anew : PySem.W.codeIn K cd_CO_label_anew "Order._label_anew" = true)
    (k_CO_label_anew : PySem.W.keepIn K (.ref f_CO_label_anew) = true)
    (y_CO_label_anew : PySem.W.isFn K (.ref f_CO_label_anew) = true)
    (m_CO_behind : PySem.W.findIn K (.ref CO) "behind" = some (some (.ref f_CO_behind)))
    (l_CO_behind : K.lookup f_CO_behind = some ⟨oc_CO_behind, od_CO_behind, .func (PySem.W.fnOf "behind" "Order.behind" (defArgs s_Order_behind) (defBody s_Order_behind) (defScope s_Order_behind) .none kV_CO_behind dc_CO_behind pm_CO_behind an_CO_behind cd_CO_behind ct_CO_behind), sl_CO_behind⟩)
    (c_CO_behind : PySem.W.codeIn K cd_CO_behind "Order.behind" = true)
    (k_CO_behind : PySem.W.keepIn K (.ref f_CO_behind) = true)
    (y_CO_behind : PySem.W.isFn K (.ref f_CO_behind) = true)
    (m_CO_drop : PySem.W.findIn K (.ref CO) "drop" = some (some (.ref f_CO_drop)))
    (l_CO_drop : K.lookup f_CO_drop = some ⟨oc_CO_drop, od_CO_drop, .func (PySem.W.fnOf "drop" "Order.drop" (defArgs s_Order_drop) (defBody s_Order_drop) (defScope s_Order_drop) .none kV_CO_drop dc_CO_drop pm_CO_drop an_CO_drop cd_CO_drop ct_CO_drop), sl_CO_drop⟩)
    (c_CO_drop : PySem.W.codeIn K cd_CO_drop "Order.drop" = true)
    (k_CO_drop : PySem.W.keepIn K (.ref f_CO_drop) = true)
    (y_CO_drop : PySem.W.isFn K (.ref f_CO_drop) = true)
    (m_CO_init : PySem.W.findIn K (.ref CO) "__init__" = some (some (.ref f_CO_init)))
    (l_CO_init : K.lookup f_CO_init = some ⟨oc_CO_init, od_CO_init, .func (PySem.W.fnOf "__init__" "Order.__init__" (defArgs s_Order___init__) (defBody s_Order___init__) (defScope s_Order___init__) .none kV_CO_init dc_CO_init pm_CO_init an_CO_init cd_CO_init ct_CO_init), sl_CO_init⟩)
    (c_CO_init : PySem.W.codeIn K cd_CO_init "Order.__init__" = true)
    (k_CO_init : PySem.W.keepIn K (.ref f_CO_init) = true)
    (y_CO_init : PySem.W.isFn K (.ref f_CO_init) = true)
    (xT : K.lookup CO = some (excClassObj nmT qT CO NT bsT [.type "object"] hdT snT subT abT colT ddT m0T m1T m2T m3T m5T niT))
    (lnT : K.lookup NT = some ⟨cnT, dnT, .dict enT.toArray nnT, slnT⟩)
    (okT : (enT.all fun e => match e.key with | .str _ _ => true | _ => false) = true)
    (eqT : PySem.W.nsIn K NT "__eq__" = some none)
    (neT : PySem.W.nsIn K NT "__ne__" = some none)
    (q1T : PySem.W.findIn K (.ref CO) "__class__" = some (some (.builtin "object.__class__")))
    (q2T : PySem.W.specialIn K (.builtin "object.__class__") "__get__" = some (some (.builtin "getset_descriptor.__get__")))
    (q3T : PySem.W.takesIn K (.builtin "object.__class__") = some true)
    (q4T : PySem.W.mroIn K CO (.type "object") = some true)
    (siT : PySem.W.subIn K (.ref CO) (.type "int") = some false)
    (sbT : PySem.W.subIn K (.ref CO) (.type "bool") = some false)
    (op : PySem.W.nsIn K cStatics "thirdparty.any" = some none)
    (zs : PySem.W.nsIn K mainGlobals "super" = some none)
    (htop : (l.prog.main.scope.names.lookup ("super" : Str)).isSome = false)
    (aE : PySem.W.nsIn K mainGlobals "MakesError" = some (some (.ref CE)))
    (iE : PySem.W.isClsIn K CE = true)
    (yE : PySem.W.typeIn K (.ref CE) = some (.type "type"))
    (eE : PySem.W.subIn K (.ref CE) (.type "BaseException") = some true)
    (aN : PySem.W.nsIn K mainGlobals "NoMark" = some (some (.ref CN)))
    (xN : K.lookup CN = some (excClassObj nmN qN CN NN bsN [.ref CE, .type "ValueError", .type "Exception", .type "BaseException", .type "object"] true snN subN abN colN ddN m0N m1N m2N m3N m5N "ValueError.__new__"))
    (saN : PySem.W.findIn K (.ref CN) "__setattr__" = some (some (.builtin "object.__setattr__")))
    (gaN : PySem.W.findIn K (.ref CN) "__getattribute__" = some (some (.builtin "BaseException.__getattribute__")))
    (ggN : PySem.W.findIn K (.ref CN) "__getattr__" = some none)
    (nnN : PySem.W.findIn K (.ref CN) "found" = some none)
    (iiN : PySem.W.findIn K (.ref CN) "__init__" = some (some (.ref fN)))
    (ttN : PySem.W.typeIn K (.ref fN) = some (.type "function"))
    (kkN : PySem.W.keepIn K (.ref CN) = true)
    (eeN : PySem.W.subIn K (.ref CN) (.type "BaseException") = some true)
    (veN : PySem.W.subIn K (.ref CN) (.type "ValueError") = some true)
    (tyN : PySem.W.typeIn K (.ref CN) = some (.type "type"))
    (hdN : PySem.W.hasDictIn K CN = true)
    (mmN : PySem.W.mroIn K CN (.ref CN) = some true)
    (suN : PySem.W.ks_superIn K CN CN "__init__" = some (some (.builtin "ValueError.__init__")))
    (llN : K.lookup fN = some ⟨ocN, odN, .func (PySem.W.ksFn "__init__" "NoMark.__init__" (Ge.iA r1N r2N) (Ge.iB "this is no mark that stands" kdN p1N p2N p3N p4N p5N p6N q1N q2N q3N q4N) Ge.iS .none .none dcN pmN anN (.ref cdaN) ctN ccN), slN⟩)
    (ciN : PySem.W.codeIn K (.ref cdaN) "NoMark.__init__" = true)
    (dlN : K.lookup cdaN = some ⟨cclN, cddN, .fields vsN, ccsN⟩)
    (fvN : vsN[2]? = some (.str fileN tfN))
    (flN : ((l.prog.main.file : Str) == fileN) = true)
    (zcN : K.lookup ccN = some ⟨clN, cldN, .cell (some (.ref CN)), cslN⟩)
    (plN : (p3N.endLine == p5N.line) = true)
    (h1N : PySem.W.findIn K (.ref CN) "__class__" = some (some (.builtin "object.__class__")))
    (h2N : PySem.W.specialIn K (.builtin "object.__class__") "__get__" = some (some (.builtin "getset_descriptor.__get__")))
    (h3N : PySem.W.takesIn K (.builtin "object.__class__") = some true)
    (h4N : PySem.W.mroIn K CN (.type "object") = some true)
    (smN : PySem.W.subIn K (.ref CN) (.ref CE) = some true)
    (aM : PySem.W.nsIn K mainGlobals "TooMany" = some (some (.ref CM)))
    (xM : K.lookup CM = some (excClassObj nmM qM CM NM bsM [.ref CE, .type "ValueError", .type "Exception", .type "BaseException", .type "object"] true snM subM abM colM ddM m0M m1M m2M m3M m5M "ValueError.__new__"))
    (saM : PySem.W.findIn K (.ref CM) "__setattr__" = some (some (.builtin "object.__setattr__")))
    (gaM : PySem.W.findIn K (.ref CM) "__getattribute__" = some (some (.builtin "BaseException.__getattribute__")))
    (ggM : PySem.W.findIn K (.ref CM) "__getattr__" = some none)
    (nnM : PySem.W.findIn K (.ref CM) "count" = some none)
    (iiM : PySem.W.findIn K (.ref CM) "__init__" = some (some (.ref fM)))
    (ttM : PySem.W.typeIn K (.ref fM) = some (.type "function"))
    (kkM : PySem.W.keepIn K (.ref CM) = true)
    (eeM : PySem.W.subIn K (.ref CM) (.type "BaseException") = some true)
    (veM : PySem.W.subIn K (.ref CM) (.type "ValueError") = some true)
    (tyM : PySem.W.typeIn K (.ref CM) = some (.type "type"))
    (hdM : PySem.W.hasDictIn K CM = true)
    (mmM : PySem.W.mroIn K CM (.ref CM) = some true)
    (suM : PySem.W.ks_superIn K CM CM "__init__" = some (some (.builtin "ValueError.__init__")))
    (llM : K.lookup fM = some ⟨ocM, odM, .func (PySem.W.ksFn "__init__" "TooMany.__init__" (Gc.iA r1M r2M) (Gc.iB "there would be too many" kdM p1M p2M p3M p4M p5M p6M q1M q2M q3M q4M) Gc.iS .none .none dcM pmM anM (.ref cdaM) ctM ccM), slM⟩)
    (ciM : PySem.W.codeIn K (.ref cdaM) "TooMany.__init__" = true)
    (dlM : K.lookup cdaM = some ⟨cclM, cddM, .fields vsM, ccsM⟩)
    (fvM : vsM[2]? = some (.str fileM tfM))
    (flM : ((l.prog.main.file : Str) == fileM) = true)
    (zcM : K.lookup ccM = some ⟨clM, cldM, .cell (some (.ref CM)), cslM⟩)
    (plM : (p3M.endLine == p5M.line) = true)
    (h1M : PySem.W.findIn K (.ref CM) "__class__" = some (some (.builtin "object.__class__")))
    (h2M : PySem.W.specialIn K (.builtin "object.__class__") "__get__" = some (some (.builtin "getset_descriptor.__get__")))
    (h3M : PySem.W.takesIn K (.builtin "object.__class__") = some true)
    (h4M : PySem.W.mroIn K CM (.type "object") = some true)
    (smM : PySem.W.subIn K (.ref CM) (.ref CE) = some true)
    (ssM : PySem.W.subIn K (.ref CM) (.ref CM) = some true)
    (aA : PySem.W.nsIn K mainGlobals "Alone" = some (some (.ref CA)))
    (tyA : PySem.W.typeIn K (.ref CA) = some (.type "type"))
    (ksNM : PySem.W.subIn K (.ref CN) (.ref CM) = some false)
    (neNM : (CN == CM) = false)
    (ksMN : PySem.W.subIn K (.ref CM) (.ref CN) = some false)
    (neMN : (CM == CN) = false)
    (ksNA : PySem.W.subIn K (.ref CN) (.ref CA) = some false)
    (neNA : (CN == CA) = false)
    (ksMA : PySem.W.subIn K (.ref CM) (.ref CA) = some false)
    (neMA : (CM == CA) = false)
    (icN : PySem.W.isClsIn K CN = true)
    (icM : PySem.W.isClsIn K CM = true)
    (icA : PySem.W.isClsIn K CA = true)
    : ∃ fd : FuncData, (∀ (s : Shared) (v : Value), BindsTo s fd ⟨[v], []⟩ [("_law_script", v)]) ∧ ∀ base : Heap, K.In base → base.Ns mainGlobals mg → FnG l.prog w K mg base CX0 8 fa fd ["_law_script"] (spLaw K) := by
  have e := hfa.symm.trans (PySem.W.mg_of X G a10)
  cases e
  have d_is_whole : DefAt K mg "is_whole" s_is_whole ["thing", "low", "high"] := defAt (PySem.W.mg_of X G a0) l0 c0 k0 (fun _ _ _ _ _ _ us hl => match us, hl with | [_, _, _], _ => rfl)
  have d__law_cell_at : DefAt K mg "_law_cell_at" s__law_cell_at ["_law_script", "_law_k"] := defAt (PySem.W.mg_of X G a1) l1 c1 k1 (fun _ _ _ _ _ _ us hl => match us, hl with | [_, _], _ => rfl)
  have d__law_box : DefAt K mg "_law_box" s__law_box ["_law_cell"] := defAt (PySem.W.mg_of X G a2) l2 c2 k2 (fun _ _ _ _ _ _ us hl => match us, hl with | [_], _ => rfl)
  have d__law_take : DefAt K mg "_law_take" s__law_take ["_law_box_here", "_law_many"] := defAt (PySem.W.mg_of X G a3) l3 c3 k3 (fun _ _ _ _ _ _ us hl => match us, hl with | [_, _], _ => rfl)
  have d__law_call : DefAt K mg "_law_call" s__law_call ["_law_order", "_law_way", "_law_one", "_law_other"] := defAt (PySem.W.mg_of X G a4) l4 c4 k4 (fun _ _ _ _ _ _ us hl => match us, hl with | [_, _, _, _], _ => rfl)
  have d__law_told : DefAt K mg "_law_told" s__law_told ["_law_order", "_law_way", "_law_one", "_law_other"] := defAt (PySem.W.mg_of X G a5) l5 c5 k5 (fun _ _ _ _ _ _ us hl => match us, hl with | [_, _, _, _], _ => rfl)
  have d__law_seen : DefAt K mg "_law_seen" s__law_seen ["_law_order"] := defAt (PySem.W.mg_of X G a6) l6 c6 k6 (fun _ _ _ _ _ _ us hl => match us, hl with | [_], _ => rfl)
  have d__law_odd : DefAt K mg "_law_odd" s__law_odd ["_law_box_here", "_law_order", "_law_row", "_law_gone", "_law_given"] := defAt (PySem.W.mg_of X G a7) l7 c7 k7 (fun _ _ _ _ _ _ us hl => match us, hl with | [_, _, _, _, _], _ => rfl)
  have d__law_right : DefAt K mg "_law_right" s__law_right ["_law_box_here", "_law_order", "_law_row", "_law_gone", "_law_given"] := defAt (PySem.W.mg_of X G a8) l8 c8 k8 (fun _ _ _ _ _ _ us hl => match us, hl with | [_, _, _, _, _], _ => rfl)
  have d__law_full_right : DefAt K mg "_law_full_right" s__law_full_right ["_law_box_here"] := defAt (PySem.W.mg_of X G a9) l9 c9 k9 (fun _ _ _ _ _ _ us hl => match us, hl with | [_], _ => rfl)
  have F_law := fun_mk (st := s_law) l10 c10 k10
  have cl_CO : Cls K CO := ⟨pg_CO, hd_CO, po_CO, sa_CO⟩
  have F_CO_many := fun_mk (st := s_Order_many) l_CO_many c_CO_many k_CO_many
  have B_CO_many : Binds K _ ["self"] [] := F_CO_many.binds (ps := ["self"]) (fun _ _ _ _ _ _ us hl => match us, hl with | [_], _ => rfl)
  have M_CO_many : MAt K CO "many" "Order.many" s_Order_many ["self"] := ⟨_, _, F_CO_many, ⟨m_CO_many, y_CO_many, k_CO_many⟩, B_CO_many⟩
  have F_CO_need_mark := fun_mk (st := s_Order__need_mark) l_CO_need_mark c_CO_need_mark k_CO_need_mark
  have B_CO_need_mark : Binds K _ ["self", "mark"] [] := F_CO_need_mark.binds (ps := ["self", "mark"]) (fun _ _ _ _ _ _ us hl => match us, hl with | [_, _], _ => rfl)
  have M_CO_need_mark : MAt K CO "_need_mark" "Order._need_mark" s_Order__need_mark ["self", "mark"] := ⟨_, _, F_CO_need_mark, ⟨m_CO_need_mark, y_CO_need_mark, k_CO_need_mark⟩, B_CO_need_mark⟩
  have F_CO_label := fun_mk (st := s_Order_label) l_CO_label c_CO_label k_CO_label
  have B_CO_label : Binds K _ ["self", "mark"] [] := F_CO_label.binds (ps := ["self", "mark"]) (fun _ _ _ _ _ _ us hl => match us, hl with | [_, _], _ => rfl)
  have M_CO_label : MAt K CO "label" "Order.label" s_Order_label ["self", "mark"] := ⟨_, _, F_CO_label, ⟨m_CO_label, y_CO_label, k_CO_label⟩, B_CO_label⟩
  have F_CO_ahead := fun_mk (st := s_Order_ahead) l_CO_ahead c_CO_ahead k_CO_ahead
  have B_CO_ahead : Binds K _ ["self", "one", "other"] [] := F_CO_ahead.binds (ps := ["self", "one", "other"]) (fun _ _ _ _ _ _ us hl => match us, hl with | [_, _, _], _ => rfl)
  have M_CO_ahead : MAt K CO "ahead" "Order.ahead" s_Order_ahead ["self", "one", "other"] := ⟨_, _, F_CO_ahead, ⟨m_CO_ahead, y_CO_ahead, k_CO_ahead⟩, B_CO_ahead⟩
  have F_CO_label_at := fun_mk (st := s_Order__label_at) l_CO_label_at c_CO_label_at k_CO_label_at
  have B_CO_label_at : Binds K _ ["self", "at"] [] := F_CO_label_at.binds (ps := ["self", "at"]) (fun _ _ _ _ _ _ us hl => match us, hl with | [_, _], _ => rfl)
  have M_CO_label_at : MAt K CO "_label_at" "Order._label_at" s_Order__label_at ["self", "at"] := ⟨_, _, F_CO_label_at, ⟨m_CO_label_at, y_CO_label_at, k_CO_label_at⟩, B_CO_label_at⟩
  have F_CO_marks := fun_mk (st := s_Order_marks) l_CO_marks c_CO_marks k_CO_marks
  have B_CO_marks : Binds K _ ["self"] [] := F_CO_marks.binds (ps := ["self"]) (fun _ _ _ _ _ _ us hl => match us, hl with | [_], _ => rfl)
  have M_CO_marks : MAt K CO "marks" "Order.marks" s_Order_marks ["self"] := ⟨_, _, F_CO_marks, ⟨m_CO_marks, y_CO_marks, k_CO_marks⟩, B_CO_marks⟩
  have F_CO_anew := fun_mk (st := s_Order_anew) l_CO_anew c_CO_anew k_CO_anew
  have B_CO_anew : Binds K _ ["self"] [] := F_CO_anew.binds (ps := ["self"]) (fun _ _ _ _ _ _ us hl => match us, hl with | [_], _ => rfl)
  have M_CO_anew : MAt K CO "anew" "Order.anew" s_Order_anew ["self"] := ⟨_, _, F_CO_anew, ⟨m_CO_anew, y_CO_anew, k_CO_anew⟩, B_CO_anew⟩
  have F_CO_label_anew := fun_mk (st := s_Order__label_anew) l_CO_label_anew c_CO_label_anew k_CO_label_anew
  have B_CO_label_anew : Binds K _ ["self"] [] := F_CO_label_anew.binds (ps := ["self"]) (fun _ _ _ _ _ _ us hl => match us, hl with | [_], _ => rfl)
  have M_CO_label_anew : MAt K CO "_label_anew" "Order._label_anew" s_Order__label_anew ["self"] := ⟨_, _, F_CO_label_anew, ⟨m_CO_label_anew, y_CO_label_anew, k_CO_label_anew⟩, B_CO_label_anew⟩
  have F_CO_behind := fun_mk (st := s_Order_behind) l_CO_behind c_CO_behind k_CO_behind
  have B_CO_behind : Binds K _ ["self", "mark"] [] := F_CO_behind.binds (ps := ["self", "mark"]) (fun _ _ _ _ _ _ us hl => match us, hl with | [_, _], _ => rfl)
  have M_CO_behind : MAt K CO "behind" "Order.behind" s_Order_behind ["self", "mark"] := ⟨_, _, F_CO_behind, ⟨m_CO_behind, y_CO_behind, k_CO_behind⟩, B_CO_behind⟩
  have F_CO_drop := fun_mk (st := s_Order_drop) l_CO_drop c_CO_drop k_CO_drop
  have B_CO_drop : Binds K _ ["self", "mark"] [] := F_CO_drop.binds (ps := ["self", "mark"]) (fun _ _ _ _ _ _ us hl => match us, hl with | [_, _], _ => rfl)
  have M_CO_drop : MAt K CO "drop" "Order.drop" s_Order_drop ["self", "mark"] := ⟨_, _, F_CO_drop, ⟨m_CO_drop, y_CO_drop, k_CO_drop⟩, B_CO_drop⟩
  have F_CO_init := fun_mk (st := s_Order___init__) l_CO_init c_CO_init k_CO_init
  have B_CO_init : Binds K _ ["self"] [] := F_CO_init.binds (ps := ["self"]) (fun _ _ _ _ _ _ us hl => match us, hl with | [_], _ => rfl)
  have M_CO_init : MAt K CO "__init__" "Order.__init__" s_Order___init__ ["self"] := ⟨_, _, F_CO_init, ⟨m_CO_init, y_CO_init, k_CO_init⟩, B_CO_init⟩
  have EN : ErrTxt l.prog K CN fN "NoMark.__init__" _ :=
    { cls := ⟨nmN, qN, NN, bsN, _, snN, subN, abN, colN, ddN, m0N, m1N, m2N, m3N, m5N, xN, by rfl⟩, sa := saN, ga := gaN, gg := ggN, noN := nnN, iC := iiN, tC := ttN, kC := kkN, exC := eeN, veC := veN, tyC := tyN, hdC := hdN, sub := mmN, sup := suN, op := op, zs := zs, htop := htop,
      fn := ⟨ocN, odN, dcN, pmN, anN, cdaN, ccN, ctN, slN, kdN, p1N, p2N, p3N, p4N, p5N, p6N, q1N, q2N, q3N, q4N, r1N, r2N, cclN, clN, cddN, cldN, vsN, ccsN, cslN, fileN, tfN, llN, ciN, dlN, fvN, flN, zcN, plN⟩ }
  have EM : Gc.ErrTxt l.prog K CM fM "TooMany.__init__" _ :=
    { cls := ⟨nmM, qM, NM, bsM, _, snM, subM, abM, colM, ddM, m0M, m1M, m2M, m3M, m5M, xM, by rfl⟩, sa := saM, ga := gaM, gg := ggM, noN := nnM, iC := iiM, tC := ttM, kC := kkM, exC := eeM, veC := veM, tyC := tyM, hdC := hdM, sub := mmM, sup := suM, op := op, zs := zs, htop := htop,
      fn := ⟨ocM, odM, dcM, pmM, anM, cdaM, ccM, ctM, slM, kdM, p1M, p2M, p3M, p4M, p5M, p6M, q1M, q2M, q3M, q4M, r1M, r2M, cclM, clM, cddM, cldM, vsM, ccsM, cslM, fileM, tfM, llM, ciM, dlM, fvM, flM, zcM, plM⟩ }
  refine ⟨PySem.W.fnOf "law" "law" (defArgs s_law) (defBody s_law) (defScope s_law) .none kV10 dc10 pm10 an10 cd10 ct10, fun s v => .of_eq rfl, fun base _ _ => ?_⟩
  have T : Txt K mg := ⟨PySem.W.mg_none_of X G z_len, PySem.W.mg_none_of X G z_max, PySem.W.mg_none_of X G z_min, PySem.W.mg_none_of X G z_range, PySem.W.mg_none_of X G z_repr, PySem.W.mg_none_of X G z_isinstance, PySem.W.mg_none_of X G z_enumerate, PySem.W.mg_none_of X G z_int, PySem.W.mg_none_of X G z_bool, PySem.W.mg_none_of X G z_list, PySem.W.mg_none_of X G z_dict, ⟨t_MOST_MARKS, PySem.W.mg_of X G i_MOST_MARKS⟩, ⟨t_LABELS, PySem.W.mg_of X G i_LABELS⟩⟩
  have R : ErrN l.prog K mg CN fN CM fM := ⟨EN, PySem.W.mg_of X G aN, EM, PySem.W.mg_of X G aM⟩
  have RT : ErrT l.prog K mg CM fM := ⟨EM, PySem.W.mg_of X G aM, exm_self icM tyM eeM ssM⟩
  have Q : ErrQ l.prog K mg CN CM CA CE := ⟨⟨h1N, h2N, h3N, h4N⟩, ⟨h1M, h2M, h3M, h4M⟩, PySem.W.mg_of X G aE, PySem.W.mg_of X G aA, PySem.W.mg_none_of X G z_ValueError, by rfl, kit_self, kit_no neNM icM tyM ksNM, kit_no neNA icA tyA ksNA, kit_no neMN icN tyN ksMN, kit_self, kit_no neMA icA tyA ksMA, kit_ty (by decide +kernel) veN, kit_ty (by decide +kernel) veM, exm_above smN iE yE eE, exm_above smM iE yE eE⟩
  have OC : OrdC K CO := ⟨cl_CO, no_CO__marks, no_CO__labels, no_CO__given, no_CO__times⟩
  have IT : IsT K CO := ⟨cl_CO, q1T, q2T, q3T, q4T, kit_ty (by decide +kernel) siT, kit_ty (by decide +kernel) sbT⟩
  have CC : Gx.CmpC K CO := ⟨nmT, qT, NT, bsT, hdT, snT, subT, abT, colT, ddT, m0T, m1T, m2T, m3T, m5T, niT, xT, ns_ok lnT okT, eqT, neT⟩
  have c_wh := ok_whI (P := l.prog) (w := w) (base := base) T d_is_whole
  have c_wx := ok_whX (P := l.prog) (w := w) (base := base) T IT d_is_whole
  have many := ok_many (P := l.prog) (w := w) (base := base) T OC M_CO_many
  have need := ok_need T OC c_wh M_CO_need_mark
  have label := ok_label T OC need M_CO_label
  have labat := ok_labat T OC many M_CO_label_at
  have marks := ok_marks (P := l.prog) (w := w) (base := base) T OC M_CO_marks
  have times := ok_times (P := l.prog) (w := w) (base := base) T OC M_CO_anew
  have anew := ok_anew T OC many M_CO_label_anew
  have behind := ok_behind T OC many need labat anew M_CO_behind
  have full := ok_full T RT OC many need labat anew M_CO_behind
  have drop := ok_drop T OC many need M_CO_drop
  have cO := PySem.W.mg_of X G a_CO
  have mkO : Mk K CO f_CO_init := ⟨mk_CO, m_CO_init, y_CO_init, kp_CO⟩
  have giO := fn_init (P := l.prog) (w := w) (base := base) T OC F_CO_init
  have needX := ok_needX T R OC c_wx M_CO_need_mark
  have behindX := ok_behindX T OC needX many labat anew M_CO_behind
  have labelX := ok_labelX T OC needX M_CO_label
  have dropX := ok_dropX T OC needX many M_CO_drop
  have ah1 := ok_ah1 T OC labelX M_CO_ahead
  have ah2 := ok_ah2 T OC label labelX M_CO_ahead
  have c_cell := ok_cell (P := l.prog) (w := w) (base := base) T d__law_cell_at
  have c_box := ok_box (P := l.prog) (w := w) (base := base) T d__law_box
  have c_take := ok_take (P := l.prog) (w := w) (base := base) T d__law_take
  have c_call := ok_call T behindX full dropX ah1 ah2 labelX d__law_call
  have c_told := ok_told T R Q c_call d__law_told
  have c_seen := ok_seen T marks label times many d__law_seen
  have c_odd := ok_odd (C := CO) T c_take d__law_odd
  have c_right := ok_right T IT CC c_take c_odd c_seen c_told d__law_right
  have c_full := ok_fr T cO mkO B_CO_init giO behind drop marks many c_take c_seen c_told d__law_full_right
  exact ok_law T F_law cO mkO B_CO_init giO behind drop c_cell c_box c_take c_right c_full
end K15
open PySem PySem.W PyProof.Rows
set_option maxRecDepth 100000 in
set_option maxHeartbeats 0 in
theorem PySem.Challenge.cw_makeskept_k15_orders_refused_holds : PySem.Challenge.rw_makeskept_k15_orders_refused.Holds := by
  w_on; o_law; k_head; (case hw => w_witness2)
  k_fill
  refine Gd.walkG (l := PySem.Challenge.rw_makeskept_k15_orders_refused) (n := 63) (k := 8) (x := "_law_script") (CX := fun _ => L2.CX0) (sp := fun w => K15.spLaw _) rfl (by decide) rfl ⟨rfl, by decide, by decide⟩ (fun w h Y => PySem.W.kIn_of Y) ?F (fun _ _ a ns hl _ hS => ⟨a, ns, rfl, hS, hl, fun _ => rfl⟩) (fun _ _ _ _ _ h => h)
  case F =>
    intro w mg fa h KX G hmg
    refine' K15.all_mk KX G hmg ?a0 ?l0 ?c0 ?k0 ?a1 ?l1 ?c1 ?k1 ?a2 ?l2 ?c2 ?k2 ?a3 ?l3 ?c3 ?k3 ?a4 ?l4 ?c4 ?k4 ?a5 ?l5 ?c5 ?k5 ?a6 ?l6 ?c6 ?k6 ?a7 ?l7 ?c7 ?k7 ?a8 ?l8 ?c8 ?k8 ?a9 ?l9 ?c9 ?k9 ?a10 ?l10 ?c10 ?k10 ?z_len ?z_max ?z_min ?z_range ?z_repr ?z_isinstance ?z_enumerate ?z_int ?z_bool ?z_list ?z_dict ?i_MOST_MARKS ?i_LABELS ?z_ValueError ?a_CO ?pg_CO ?hd_CO ?po_CO ?sa_CO ?no_CO__marks ?no_CO__labels ?no_CO__given ?no_CO__times ?mk_CO ?kp_CO ?m_CO_many ?l_CO_many ?c_CO_many ?k_CO_many ?y_CO_many ?m_CO_need_mark ?l_CO_need_mark ?c_CO_need_mark ?k_CO_need_mark ?y_CO_need_mark ?m_CO_label ?l_CO_label ?c_CO_label ?k_CO_label ?y_CO_label ?m_CO_ahead ?l_CO_ahead ?c_CO_ahead ?k_CO_ahead ?y_CO_ahead ?m_CO_label_at ?l_CO_label_at ?c_CO_label_at ?k_CO_label_at ?y_CO_label_at ?m_CO_marks ?l_CO_marks ?c_CO_marks ?k_CO_marks ?y_CO_marks ?m_CO_anew ?l_CO_anew ?c_CO_anew ?k_CO_anew ?y_CO_anew ?m_CO_label_anew ?l_CO_label_anew ?c_CO_label_anew ?k_CO_label_anew ?y_CO_label_anew ?m_CO_behind ?l_CO_behind ?c_CO_behind ?k_CO_behind ?y_CO_behind ?m_CO_drop ?l_CO_drop ?c_CO_drop ?k_CO_drop ?y_CO_drop ?m_CO_init ?l_CO_init ?c_CO_init ?k_CO_init ?y_CO_init ?xT ?lnT ?okT ?eqT ?neT ?q1T ?q2T ?q3T ?q4T ?siT ?sbT ?op ?zs ?htop ?aE ?iE ?yE ?eE ?aN ?xN ?saN ?gaN ?ggN ?nnN ?iiN ?ttN ?kkN ?eeN ?veN ?tyN ?hdN ?mmN ?suN ?llN ?ciN ?dlN ?fvN ?flN ?zcN ?plN ?h1N ?h2N ?h3N ?h4N ?smN ?aM ?xM ?saM ?gaM ?ggM ?nnM ?iiM ?ttM ?kkM ?eeM ?veM ?tyM ?hdM ?mmM ?suM ?llM ?ciM ?dlM ?fvM ?flM ?zcM ?plM ?h1M ?h2M ?h3M ?h4M ?smM ?ssM ?aA ?tyA ?ksNM ?neNM ?ksMN ?neMN ?ksNA ?neNA ?ksMA ?neMA ?icN ?icM ?icA
    (case a0 => k_is)
    (case l0 => k_is)
    (case c0 => k_is)
    (case k0 => k_is)
    (case a1 => k_is)
    (case l1 => k_is)
    (case c1 => k_is)
    (case k1 => k_is)
    (case a2 => k_is)
    (case l2 => k_is)
    (case c2 => k_is)
    (case k2 => k_is)
    (case a3 => k_is)
    (case l3 => k_is)
    (case c3 => k_is)
    (case k3 => k_is)
    (case a4 => k_is)
    (case l4 => k_is)
    (case c4 => k_is)
    (case k4 => k_is)
    (case a5 => k_is)
    (case l5 => k_is)
    (case c5 => k_is)
    (case k5 => k_is)
    (case a6 => k_is)
    (case l6 => k_is)
    (case c6 => k_is)
    (case k6 => k_is)
    (case a7 => k_is)
    (case l7 => k_is)
    (case c7 => k_is)
    (case k7 => k_is)
    (case a8 => k_is)
    (case l8 => k_is)
    (case c8 => k_is)
    (case k8 => k_is)
    (case a9 => k_is)
    (case l9 => k_is)
    (case c9 => k_is)
    (case k9 => k_is)
    (case a10 => k_is)
    (case l10 => k_is)
    (case c10 => k_is)
    (case k10 => k_is)
    (case z_len => k_is)
    (case z_max => k_is)
    (case z_min => k_is)
    (case z_range => k_is)
    (case z_repr => k_is)
    (case z_isinstance => k_is)
    (case z_enumerate => k_is)
    (case z_int => k_is)
    (case z_bool => k_is)
    (case z_list => k_is)
    (case z_dict => k_is)
    (case i_MOST_MARKS => k_is)
    (case i_LABELS => k_is)
    (case z_ValueError => k_is)
    (case a_CO => k_is)
    (case pg_CO => k_is)
    (case hd_CO => k_is)
    (case po_CO => k_is)
    (case sa_CO => k_is)
    (case no_CO__marks => k_is)
    (case no_CO__labels => k_is)
    (case no_CO__given => k_is)
    (case no_CO__times => k_is)
    (case mk_CO => k_is)
    (case kp_CO => k_is)
    (case m_CO_many => k_is)
    (case l_CO_many => k_is)
    (case c_CO_many => k_is)
    (case k_CO_many => k_is)
    (case y_CO_many => k_is)
    (case m_CO_need_mark => k_is)
    (case l_CO_need_mark => k_is)
    (case c_CO_need_mark => k_is)
    (case k_CO_need_mark => k_is)
    (case y_CO_need_mark => k_is)
    (case m_CO_label => k_is)
    (case l_CO_label => k_is)
    (case c_CO_label => k_is)
    (case k_CO_label => k_is)
    (case y_CO_label => k_is)
    (case m_CO_ahead => k_is)
    (case l_CO_ahead => k_is)
    (case c_CO_ahead => k_is)
    (case k_CO_ahead => k_is)
    (case y_CO_ahead => k_is)
    (case m_CO_label_at => k_is)
    (case l_CO_label_at => k_is)
    (case c_CO_label_at => k_is)
    (case k_CO_label_at => k_is)
    (case y_CO_label_at => k_is)
    (case m_CO_marks => k_is)
    (case l_CO_marks => k_is)
    (case c_CO_marks => k_is)
    (case k_CO_marks => k_is)
    (case y_CO_marks => k_is)
    (case m_CO_anew => k_is)
    (case l_CO_anew => k_is)
    (case c_CO_anew => k_is)
    (case k_CO_anew => k_is)
    (case y_CO_anew => k_is)
    (case m_CO_label_anew => k_is)
    (case l_CO_label_anew => k_is)
    (case c_CO_label_anew => k_is)
    (case k_CO_label_anew => k_is)
    (case y_CO_label_anew => k_is)
    (case m_CO_behind => k_is)
    (case l_CO_behind => k_is)
    (case c_CO_behind => k_is)
    (case k_CO_behind => k_is)
    (case y_CO_behind => k_is)
    (case m_CO_drop => k_is)
    (case l_CO_drop => k_is)
    (case c_CO_drop => k_is)
    (case k_CO_drop => k_is)
    (case y_CO_drop => k_is)
    (case m_CO_init => k_is)
    (case l_CO_init => k_is)
    (case c_CO_init => k_is)
    (case k_CO_init => k_is)
    (case y_CO_init => k_is)
    (case xT => k_is)
    (case lnT => k_is)
    (case okT => first | rfl | decide +kernel)
    (case eqT => k_is)
    (case neT => k_is)
    (case q1T => k_is)
    (case q2T => k_is)
    (case q3T => k_is)
    (case q4T => k_is)
    (case siT => k_is)
    (case sbT => k_is)
    (case op => k_is)
    (case zs => k_is)
    (case htop => first | rfl | decide +kernel)
    (case aE => k_is)
    (case iE => k_is)
    (case yE => k_is)
    (case eE => k_is)
    (case aN => k_is)
    (case xN => k_is)
    (case saN => k_is)
    (case gaN => k_is)
    (case ggN => k_is)
    (case nnN => k_is)
    (case iiN => k_is)
    (case ttN => k_is)
    (case kkN => k_is)
    (case eeN => k_is)
    (case veN => k_is)
    (case tyN => k_is)
    (case hdN => k_is)
    (case mmN => k_is)
    (case suN => ks_is)
    (case llN => k_is)
    (case ciN => k_is)
    (case dlN => k_is)
    (case fvN => rfl)
    (case flN => first | rfl | decide +kernel)
    (case zcN => k_is)
    (case plN => rfl)
    (case h1N => k_is)
    (case h2N => k_is)
    (case h3N => k_is)
    (case h4N => k_is)
    (case smN => k_is)
    (case aM => k_is)
    (case xM => k_is)
    (case saM => k_is)
    (case gaM => k_is)
    (case ggM => k_is)
    (case nnM => k_is)
    (case iiM => k_is)
    (case ttM => k_is)
    (case kkM => k_is)
    (case eeM => k_is)
    (case veM => k_is)
    (case tyM => k_is)
    (case hdM => k_is)
    (case mmM => k_is)
    (case suM => ks_is)
    (case llM => k_is)
    (case ciM => k_is)
    (case dlM => k_is)
    (case fvM => rfl)
    (case flM => first | rfl | decide +kernel)
    (case zcM => k_is)
    (case plM => rfl)
    (case h1M => k_is)
    (case h2M => k_is)
    (case h3M => k_is)
    (case h4M => k_is)
    (case smM => k_is)
    (case ssM => k_is)
    (case aA => k_is)
    (case tyA => k_is)
    (case ksNM => k_is)
    (case neNM => first | rfl | decide +kernel)
    (case ksMN => k_is)
    (case neMN => first | rfl | decide +kernel)
    (case ksNA => k_is)
    (case neNA => first | rfl | decide +kernel)
    (case ksMA => k_is)
    (case neMA => first | rfl | decide +kernel)
    (case icN => k_is)
    (case icM => k_is)
    (case icA => k_is)

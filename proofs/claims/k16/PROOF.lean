import PyProof.Rows.All
import Wide.All
import OpenK.AllK
import Wide.FinOn
import HandS.ForMost
import HandS.IsInst
import HandS.TupLe
import PyProof.ReprLen
import KE.KExcLine
import HandS.Exc
import HandS.ExcOwn
import HandS.WordsExc
import KE.KExcIs
import HandS.TryOnly
import HandS.Nested
import KE.KSuper
import HandS.Codes
import HandS.Style
import HandS.Walk
import HandS.SetFor
import HandS.More
import HandS.WordsDict
import HandS.DictComp
import KE.RegKSuper
import PySem.Challenge.RW_makeskept_k16_tours_by_coming_and_leavin
set_option Elab.async false
set_option linter.all false
set_option maxRecDepth 100000
set_option maxHeartbeats 4000000
/-! A promise of a def that is kept where nothing is being shown (no repr under way), and repr of data under it. -/
namespace Gd
open PySem PySem.Spec PyProof.Rows L2

/-- as FnOk, asked only where no repr is under way -/
structure FnG (P : Program) (w : World) (K : PySem.W.Frag) (mg : Str → Option Value) (base : Heap)
    (CX : CXT) (k : Nat) (f : Addr) (fd : FuncData) (ps : List Str) (sp : Sp) : Prop where
  arity : ∀ vs H Q E, sp vs H Q E → vs.length = ps.length
  go : ∀ (A : Around) (outer : List Env) (s : Shared) (H : Hp) (args : Args) (us : List Value) (vs : List V)
    (Q : VK) (E : XK), A.guards = some [] → Room k A → Env0 P w K mg base A outer s H →
    BindsTo s fd args (ps.zip us) → Vals vs us → sp vs H Q E →
    codeAny (model P w) A (.call (.ref f) args) (CR CX outer P w H s Q E) s

section
variable {P : Program} {w : World} {K : PySem.W.Frag} {mg : Str → Option Value} {base : Heap}
theorem FnG.low {CX : CXT} {j k : Nat} {f : Addr} {fd : FuncData} {ps : List Str} {sp : Sp}
    (F : FnG P w K mg base CX j f fd ps sp) (h : j ≤ k) : FnG P w K mg base CX k f fd ps sp :=
  ⟨F.arity, fun A o s H ar us vs Q E g r => F.go A o s H ar us vs Q E g (r.mono h)⟩
theorem FnG.ofOk {CX : CXT} {k : Nat} {f : Addr} {fd : FuncData} {ps : List Str} {sp : Sp}
    (F : FnOk P w K mg base CX k f fd ps sp) : FnG P w K mg base CX k f fd ps sp :=
  ⟨F.len, fun A o s H ar us vs Q E _ r => F.run A o s H ar us vs Q E r⟩

/-- the rule for a def, told that no repr is under way -/
theorem fnG_of {CX : CXT} {k : Nat} {f : Addr} {name qual : Str} {params : Arguments} {body : List Stmt}
    {scope : Scope} {dV kV doc pm cdv ct oc : Value} {an od : Option Addr} {osl : Array (Option Value)}
    {N ps : List Str} {sp : Sp}
    (lk : K.lookup f = some ⟨oc, od, .func (PySem.W.fnOf name qual params body scope dV kV doc pm an cdv ct), osl⟩)
    (cin : PySem.W.codeIn K cdv qual = true) (S : FnScope N ps scope)
    (ar : ∀ vs H Q E, sp vs H Q E → vs.length = ps.length)
    (bd : ∀ (A : Around) (outer : List Env) (s : Shared) (H : Hp) (vs : List V) (Q : VK) (E : XK),
      A.guards = some [] → Room k (A.deeper (envOfC qual scope s.heap.objs.size f cdv)) → sp vs H Q E →
      ∃ t, PSs (cxOf CX P w K mg base N qual scope f cdv A outer s H E) body t ∧
        t { nx := fun _ H' => Q .non H', rt := Q } (start N vs) H) :
    FnG P w K mg base CX (k + 1) f (PySem.W.fnOf name qual params body scope dV kV doc pm an cdv ct) ps sp := by
  constructor
  · exact ar
  intro A outer s H args us vs Q E hG room env bind rel prem
  have long := ar _ _ _ _ prem
  have kin : K.In s.heap := env.mod.kin.keeps fun b o z => (env.bs b o z).1
  have nl : s.heap.NoLimit := env.mod.nolimit.keeps fun b o z => (env.bs b o z).1
  have kinds : ∀ y ∈ ps.zip us, scope.names.lookup y.1 = some .local ∨
      (scope.names.lookup y.1 = some .cell ∧
        ((cellsFrom (s.heap.objs.size + 1) scope.names []).lookup y.1).isSome = true) := by
    rintro ⟨n, v⟩ hy
    cases S.par n (List.of_mem_zip hy).1 with
    | inl q => exact .inl q
    | inr q => exact .inr ⟨q, PySem.W.cellsFrom_some _ _ _ (.inl q)⟩
  apply codeAny_call_function room.depth (kin _ _ lk) rfl S.co S.gen rfl (PySem.W.codeRec_of kin cin)
  apply bind
  apply wpAny_newFunctionEnv_cells S.kind kinds
  intro en hen s1 x
  subst hen
  refine ⟨nl.keeps x.toInCall.keep, ?_⟩
  apply codeAny_func
  obtain ⟨t, der, rd⟩ := bd A outer s H vs Q E hG (room.deeper _) prem
  have J := inv_start (CX := CX) (E := E) (mg := mg) S room.hd env long rel x
  apply wpAny_mono (der.run [] s1 (start N vs) H _ J rd)
  · intro fl s' hs
    cases fl with
    | ret u =>
      obtain ⟨v, _, H', J', rv, q⟩ := hs
      exact ⟨v, H', J'.os, J'.bare, J'.base, J'.hok, rv, q⟩
    | next =>
      obtain ⟨_, H', J', q⟩ := hs
      exact ⟨.non, H', J'.os, J'.bare, J'.base, J'.hok, rfl, q⟩
    | brk =>
      obtain ⟨_, _, _, q⟩ := hs
      exact q.elim
    | cont =>
      obtain ⟨_, _, _, q⟩ := hs
      exact q.elim
  · intro e s' hs
    exact hs
theorem okG {x qual : Str} {st : Stmt} {f : Addr} {fd : FuncData} {N ps : List Str} {k : Nat} {sp : Sp}
    (F : Fun K x qual st f fd) (S : FnScope N ps (defScope st))
    (ar : ∀ vs H Q E, sp vs H Q E → vs.length = ps.length)
    (bd : ∀ (cdv : Value) (A : Around) (outer : List Env) (s : Shared) (H : Hp) (vs : List V) (Q : VK) (E : XK),
      A.guards = some [] → Room k (A.deeper (envOfC qual (defScope st) s.heap.objs.size f cdv)) → sp vs H Q E →
      ∃ t, PSs (cxOf CX0 P w K mg base N qual (defScope st) f cdv A outer s H E).nox (defBody st) t ∧
        t { nx := fun _ H' => Q .non H', rt := Q } (start N vs) H) :
    FnG P w K mg base CX0 (k + 1) f fd ps sp := by
  obtain ⟨oc, od, kV, doc, pm, an, cdv, ct, osl, rfl, lk, cin⟩ := F.ex
  apply fnG_of lk cin S ar
  intro A outer s H vs Q E hG room prem
  obtain ⟨t, der, rd⟩ := bd cdv A outer s H vs Q E hG room prem
  exact ⟨t, der.nox, rd⟩
end

section
variable {X : Cx} {CX : CXT} {k : Nat} {f : Addr} {fd : FuncData} {ps : List Str} {sp : Sp} {dvs : List V}
  {ds : List Value} {E : XK} {x : Str} {p pos : Pos} {e : Expr} {es : List Expr} {t : TA}
theorem enterG {pins : List (Addr × Obj)} {σ : L2.St} {H : Hp} {s : Shared} {Q : VK} {us : List Value} {vs : List V}
    (F : FnG X.prog X.w X.K X.mg X.base CX k f fd ps sp) (hG : X.A.guards = some []) (hr : Room k X.A)
    (hb : Binds X.K fd ps ds) (hd : Vals dvs ds) (hx : Passes CX X E) (J : Inv X pins σ H s) (rel : Vals vs us)
    (prem : sp (vs ++ dvs) H Q E) :
    wpAny (model X.prog X.w) X.A (call (.ref f) us) (EP X pins σ Q) X.xe s := by
  have rel2 : Vals (vs ++ dvs) (us ++ ds) := rel.append hd
  have long : (us ++ ds).length = ps.length := rel2.length ▸ F.arity _ _ _ _ prem
  apply wpAny_call
  apply codeAny_mono (F.go X.A X.stack s H ⟨us, []⟩ (us ++ ds) (vs ++ dvs) Q E hG hr J.env0 (hb s us J.kIn long)
    rel2 prem)
  intro r s' hq
  match r, hq with
  | .error _, hq => exact hx pins σ H s _ s' J hq
  | .ok (.ret _), hq => exact J.after hq
  | .ok .next, hq => exact hq.elim
  | .ok .brk, hq => exact hq.elim
  | .ok .cont, hq => exact hq.elim
/-- f(e, ..) of a def that keeps its promise where no repr is under way -/
theorem pe_callG (F : FnG X.prog X.w X.K X.mg X.base CX k f fd ps sp) (hG : X.A.guards = some []) (hr : Room k X.A)
    (hg : Gl X x) (hm : X.mg x = some (.ref f)) (hk : PySem.W.keepIn X.K (.ref f) = true) (hb : Binds X.K fd ps ds)
    (hd : Vals dvs ds) (hx : Passes CX X E) (ha : PA X (e :: es) t)
    (hdb : (x == ("__debug__" : Str)) = false := by decide)
    (he : starEach (e :: es) X.env = (false, eval e X.env) :: starEach es X.env := by rfl)
    (hpl : (backTo pos (starEach es X.env)).any (·.1) = false := by rfl) :
    PE X (.Call (.Name x p) (e :: es) [] pos) (tCall sp dvs E t) := by
  constructor
  intro pins s σ H Q J prem
  have arg := ha.run pos pins s σ H _ J prem
  apply wpAny_Call_Name_kw
  apply ld_glob J hg hm (hd := hdb)
  apply PySem.W.callWith_K (h₀ := X.base) J.ok.mod.kin hk (he := he) (hplain := hpl)
  apply thn arg
  rintro us s1 ⟨vs, H1, J1, rel, q⟩
  exact ⟨J1.kIn, enterG F hG hr hb hd hx J1 rel q⟩
end
end Gd
namespace Gd
open PySem PySem.Spec PyProof.Rows L2
section
variable {P : Program} {w : World} {K : PySem.W.Frag} {mg mb : Str → Option Value} {CX : CXT} {k : Nat} {fa a : Addr}
  {fd : FuncData} {x : Str} {sp : Sp} {s₁ : Shared} {vs : List Value} {ns : List Int}
/-- the law's call from one abstract heap that tracks at most the script -/
theorem callOne (kin : K.In s₁.heap) (gl : s₁.heap.Ns mainGlobals mg) (bl : s₁.heap.Ns builtinsNs mb)
    (bb : ∀ x : Str, x ≠ "__name__" → mb x = bootBuiltins x) (nl : s₁.heap.NoLimit) (gn : s₁.gens = #[])
    (at_ : s₁.heap.get? a = some { cls := .type "list", data := .seq vs.toArray }) (room : Room k callerA)
    (F : ∀ base : Heap, K.In base → base.Ns mainGlobals mg → FnG P w K mg base CX k fa fd [x] sp)
    (bind : ∀ (s : Shared) (u : Value), BindsTo s fd ⟨[u], []⟩ [(x, u)])
    (H : Hp) (only : Only H) (prem : sp [.ref a] H (fun v _ => v = .bl true) fun _ _ _ => False)
    (noX : ∀ e s', CX [] H s₁ (fun _ _ _ => False) e s' → False)
    (hok : HOk P w H s₁.heap) (here : ∀ b, H b ≠ none → b = a) (out : H a ≠ none → K.lookup a = none) :
    codeAny (model P w) callerA (.call (.ref fa) ⟨[.ref a], []⟩)
      (fun r s' => r = .ok (.ret (.bool true)) ∧ OldK s₁.heap s'.heap ∧ s'.os = s₁.os ∧ AllBare s'.gens) s₁ := by
  have free : ∀ {b : Addr} {o : Obj} {es : Array DictEntry} {ep : Nat},
      s₁.heap.get? b = some o → o.data = .dict es ep → H b = none := by
    intro b o es ep z dd
    refine Classical.byContradiction fun q => ?_
    have hb := here b q
    rw [hb, at_] at z
    injection z with z
    rw [← z] at dd
    injection dd
  have nsOf : ∀ {b : Addr} {m : Str → Option Value}, s₁.heap.Ns b m → (hidT s₁.heap H).Ns b m := by
    rintro b m ⟨o, es, ep, z, dd, r⟩
    exact ⟨o, es, ep, hidT_get z (free z dd), dd, r⟩
  have kinB : K.In (hidT s₁.heap H) := by
    intro b o z
    refine hidT_get (kin b o z) (Classical.byContradiction fun q => ?_)
    have hb := here b q
    rw [hb] at z q
    rw [out q] at z
    injection z
  have modB : Mod K mg (hidT s₁.heap H) := by
    obtain ⟨mc, l1, l2⟩ := nl
    exact ⟨kinB, nsOf gl, ⟨mb, nsOf bl, bb⟩, ⟨mc, nsOf l1, l2⟩⟩
  have env : Env0 P w K mg (hidT s₁.heap H) callerA [] s₁ H := by
    refine ⟨rfl, modB, fun b o z => of_hidT z, Nat.le_of_eq (hidT_size _ _), trivial, ?_, hok, .of_eq gn⟩
    intro b hb
    exact absurd (show b ∈ ([] : List Addr) from hb) List.not_mem_nil
  have ran := (F _ kinB (nsOf gl)).go callerA [] s₁ H ⟨[.ref a], []⟩ [.ref a] [.ref a] _ _ rfl room env
    (bind s₁ (.ref a)) (.cons rfl .nil) prem
  apply codeAny_mono ran
  intro r s' q
  match r, q with
  | .error _, q => exact (noX _ _ q).elim
  | .ok .next, q => exact q.elim
  | .ok .brk, q => exact q.elim
  | .ok .cont, q => exact q.elim
  | .ok (.ret u), q =>
    obtain ⟨v, H', os, bare, un, hok', rv, ev⟩ := q
    have ev' : v = .bl true := ev
    subst ev'
    have hu : u = Value.bool true := rv
    subst hu
    refine ⟨rfl, ?_, os, bare⟩
    apply OldK.of_keep
    intro b o z
    have nob : b ∉ ([] : List Addr) := List.not_mem_nil
    cases q : H b with
    | none => exact un.keep b o z q nob nob
    | some u =>
      cases only b with
      | inl z0 =>
        rw [q] at z0
        injection z0
      | inr z0 =>
        obtain ⟨ob, xs, z1⟩ := z0
        have y1 := (hok b _ z1).1
        have y2 := (hok' b _ (un.frzs b ob _ z1)).1
        rw [z] at y1
        injection y1 with y1
        rw [y1]
        exact y2
theorem callG (kin : K.In s₁.heap) (gl : s₁.heap.Ns mainGlobals mg) (bl : s₁.heap.Ns builtinsNs mb)
    (bb : ∀ x : Str, x ≠ "__name__" → mb x = bootBuiltins x) (nl : s₁.heap.NoLimit) (gn : s₁.gens = #[])
    (at_ : s₁.heap.get? a = some { cls := .type "list", data := .seq vs.toArray }) (hin : IntsAre vs ns)
    (short : ns.length ≤ sizeLine) (room : Room k callerA)
    (F : ∀ base : Heap, K.In base → base.Ns mainGlobals mg → FnG P w K mg base CX k fa fd [x] sp)
    (bind : ∀ (s : Shared) (u : Value), BindsTo s fd ⟨[u], []⟩ [(x, u)])
    (prem : ∀ H : Hp, Only H → SqL K H a (ns.map V.int) → sp [.ref a] H (fun v _ => v = .bl true) fun _ _ _ => False)
    (noX : ∀ H e s', CX [] H s₁ (fun _ _ _ => False) e s' → False) :
    codeAny (model P w) callerA (.call (.ref fa) ⟨[.ref a], []⟩)
      (fun r s' => r = .ok (.ret (.bool true)) ∧ OldK s₁.heap s'.heap ∧ s'.os = s₁.os ∧ AllBare s'.gens) s₁ := by
  have rv := vals_ints hin
  have lens := hin.length
  cases hk : K.lookup a with
  | some o =>
    have z := kin a o hk
    rw [at_] at z
    injection z with z
    subst z
    have only : Only (fun _ => none) := fun _ => .inl rfl
    refine callOne kin gl bl bb nl gn at_ room F bind (fun _ => none) only (prem _ only ?_) (noX _)
      (fun b u z => ?_) (fun b z => absurd rfl z) fun z => absurd rfl z
    · refine .inr ⟨_, vs.toArray, _, hk, rfl, rfl, rfl, ?_, ?_⟩
      · rw [List.size_toArray, lens]
        exact short
      · simpa using rv
    · have z' : (none : Option HO) = some u := z
      injection z'
  | none =>
    let T : HO := .frz { cls := .type "list", data := .seq vs.toArray } (.lst (ns.map V.int))
    have only : Only (fun b => if b = a then some T else none) := fun b => by
      by_cases hb : b = a
      · exact .inr ⟨_, _, if_pos hb⟩
      · exact .inl (if_neg hb)
    refine callOne kin gl bl bb nl gn at_ room F bind (fun b => if b = a then some T else none) only
      (prem _ only (.inl (.inr ⟨{ cls := .type "list", data := .seq vs.toArray }, if_pos rfl⟩))) (noX _)
      (fun b u z => ?_) (fun b z => ?_) fun _ => hk
    · by_cases hb : b = a
      · have z' : some T = some u := (if_pos hb).symm.trans z
        injection z' with z'
        subst z'
        subst hb
        refine ⟨at_, ?_, vs, _, rv, at_⟩
        rw [List.length_map]
        exact short
      · have z' : (none : Option HO) = some u := (if_neg hb).symm.trans z
        injection z'
    · refine Classical.byContradiction fun hb => z (if_neg hb)
end
/-- the goal that k_head leaves, from the law's promise under FnG -/
theorem walkG {l : PySem.W.OpenLaw} {n k : Nat} {q : Program} {loose : List Str} {XP : (Str → Option Value) → Heap → Prop}
    {YP : World → Heap → Prop} {d : DefRec} {K : Params → PySem.W.Frag} {CX : World → CXT} {sp : World → Sp} {x : Str}
    (most : l.most = some n) (line : n ≤ sizeLine) (nod : d.params.defaults = []) (room : Room k callerA)
    (kin : ∀ (w : World) (h : Heap), YP w h → (K w.params).In h)
    (F : ∀ (w : World) (mg : Str → Option Value) (fa : Addr) (h : Heap),
      (K w.params).In h → h.Ns mainGlobals mg → mg d.name = some (.ref fa) →
      ∃ fd : FuncData, (∀ (s : Shared) (u : Value), BindsTo s fd ⟨[u], []⟩ [(x, u)]) ∧
        ∀ base : Heap, (K w.params).In base → base.Ns mainGlobals mg →
          FnG l.prog w (K w.params) mg base (CX w) k fa fd [x] (sp w))
    (prem : ∀ (w : World) (H : Hp) (a : Addr) (ns : List Int), ns.length ≤ n → Only H →
      SqL (K w.params) H a (ns.map V.int) → sp w [.ref a] H (fun v _ => v = .bl true) fun _ _ _ => False)
    (noX : ∀ (w : World) (H : Hp) (s : Shared) (e : Value) (s' : Shared),
      CX w [] H s (fun _ _ _ => False) e s' → False) :
    PySem.W.WalkO q loose XP YP l.row.toRowW d [] (fun f vs => PySem.call f vs) := by
  apply Att.attach_call most nod
  intro w s₀ s₁ mg mb fa o pm cd doc a vs ns G Y ho hd hcd hmg hobj hints hlen hg
  have kx := kin w _ Y
  obtain ⟨fd, hb, hF⟩ := F w mg fa _ kx G.T.g hmg
  refine callG kx G.T.g G.T.b G.T.builtins G.T.nolimit hg hobj hints (Nat.le_trans hlen line) room hF hb ?_ ?_
  · intro H hO hS
    exact prem w H a ns hlen hO hS
  · intro H e s'
    exact noX w H s₁ e s'
end Gd
namespace Gd
open PySem PySem.Spec PyProof.Rows L2
/-- plain data, or an empty dict -/
inductive D1 (K : PySem.W.Frag) (H : Hp) : V → PyData → Prop
  | dp {v : V} {d : PyData} (h : Dp K H v d) : D1 K H v d
  | emp {a : Addr} (h : H a = some (.dK [])) : D1 K H (.ref a) (.dict [])
inductive D1s (K : PySem.W.Frag) (H : Hp) : List V → List PyData → Prop
  | nil : D1s K H [] []
  | cons {v : V} {vs : List V} {d : PyData} {ds : List PyData} : D1 K H v d → D1s K H vs ds → D1s K H (v :: vs) (d :: ds)
/-- such, or a list or a tuple of such -/
inductive D2 (K : PySem.W.Frag) (H : Hp) : V → PyData → Prop
  | d1 {v : V} {d : PyData} (h : D1 K H v d) : D2 K H v d
  | lst {a : Addr} {xs : List V} {ds : List PyData} : SqL K H a xs → D1s K H xs ds → D2 K H (.ref a) (.list ds)
  | tup {a : Addr} {xs : List V} {ds : List PyData} : SqT K H a xs → D1s K H xs ds → D2 K H (.ref a) (.tuple ds)

mutual
theorem noDict {K : PySem.W.Frag} {H : Hp} : ∀ {v : V} {d : PyData}, Dp K H v d → d.hasDict = false
  | _, _, .non => by simp only [PyData.hasDict]
  | _, _, .bl _ => by simp only [PyData.hasDict]
  | _, _, .int _ => by simp only [PyData.hasDict]
  | _, _, .str _ => by simp only [PyData.hasDict]
  | _, _, .lst _ ha => by
    simp only [PyData.hasDict]
    exact noDicts ha
  | _, _, .tup _ ha => by
    simp only [PyData.hasDict]
    exact noDicts ha
theorem noDicts {K : PySem.W.Frag} {H : Hp} : ∀ {vs : List V} {ds : List PyData}, DpAll K H vs ds → PyData.hasDictAll ds = false
  | _, _, .nil => by simp only [PyData.hasDictAll]
  | _, _, .cons h1 h2 => by simp only [PyData.hasDictAll, noDict h1, noDicts h2, Bool.or_self]
end

section
variable {X : Cx} {pins : List (Addr × Obj)} {σ : L2.St} {H : Hp} {s : Shared}
theorem D1.rd (I : Inv X pins σ H s) {v : V} {d : PyData} {u : Value} (h : D1 X.K H v d) (r : RelV v u) :
    ∃ as, Reads s.heap u d as ∧ (d.hasDict = true → sysModules ∉ as) := by
  cases h with
  | dp h =>
    obtain ⟨as, q⟩ := Dp.reads I d v u h r
    exact ⟨as, q, PyData.noDict_hsm (noDict h)⟩
  | @emp a h =>
    cases (show u = Value.ref a from r)
    obtain ⟨_, hs, vs, kv, o, es, ep, q⟩ := (show ObjOk X.prog X.w H s.heap a (.dK []) from I.hok a _ h)
    cases kv
    obtain ⟨e1, e2, e3, e4⟩ := q
    have e5 : es.toList = [] := by
      have e6 := e4.2.1
      generalize es.toList = l at e6 ⊢
      cases e6
      rfl
    refine ⟨_, Reads.dict (kvs := []) (as := []) (bs := []) e1 e2.1 e3 ?_ ?_, fun _ => ?_⟩
    · rw [e5]
      exact .nil
    · rw [e5]
      exact .nil
    · intro z
      have z' : sysModules = a := by simpa using z
      rw [← z'] at hs
      simp at hs
theorem D1s.rd (I : Inv X pins σ H s) : ∀ {vs : List V} {ds : List PyData} {us : List Value}, D1s X.K H vs ds → Vals vs us →
    ∃ as, ReadsAll s.heap us ds as
  | _, _, _, .nil, .nil => ⟨_, .nil⟩
  | _, _, _, .cons h1 h2, .cons r1 r2 => by
    obtain ⟨as, q1, _⟩ := h1.rd I r1
    obtain ⟨bs, q2⟩ := D1s.rd I h2 r2
    exact ⟨_, .cons q1 q2⟩
theorem D1.one (I : Inv X pins σ H s) {v : V} {d : PyData} {u : Value} (h : D1 X.K H v d) (r : RelV v u)
    (hs : d.showable = true) (hz : d.shown.length ≤ sizeLine) :
    ∃ bs, ReadAtMost s.heap d.depth bs ∧ ReprK X.prog X.w bs s.heap d.depth u d.shown := by
  obtain ⟨as, q, hm⟩ := h.rd I r
  exact ReprK.of_reads q hs hm hz
theorem D1s.each (I : Inv X pins σ H s) {n : Nat} : ∀ {vs : List V} {ds : List PyData} {us : List Value}, D1s X.K H vs ds → Vals vs us →
    PyData.showableAll ds = true → (∀ t ∈ PyData.shownAll ds, t.length ≤ sizeLine) → PyData.depthAll ds ≤ n →
    ∃ bs, ReadAtMost s.heap n bs ∧ ReprAllK X.prog X.w bs s.heap n us (PyData.shownAll ds)
  | _, _, _, .nil, .nil, _, _, _ => ⟨[], (fun _ z => nomatch z), by simp only [PyData.shownAll]; exact .nil⟩
  | _, _, _, .cons (d := d) (ds := ds) h1 h2, .cons r1 r2, hs, hz, hn => by
    have hs' : d.showable = true ∧ PyData.showableAll ds = true := by simpa [PyData.showableAll] using hs
    simp only [PyData.depthAll] at hn
    simp only [PyData.shownAll] at hz ⊢
    obtain ⟨b1, m1, k1⟩ := h1.one I r1 hs'.1 (hz _ List.mem_cons_self)
    obtain ⟨b2, m2, k2⟩ := D1s.each I h2 r2 hs'.2 (fun t ht => hz t (List.mem_cons_of_mem _ ht)) (by omega : PyData.depthAll ds ≤ n)
    refine ⟨b1 ++ b2, (m1.mono (by omega)).append m2, .cons ((k1.more fun b hb => List.mem_append_left _ hb).level_le (by omega)) (k2.more_le (fun b hb => List.mem_append_right _ hb) (Nat.le_refl _))⟩
end

/-- repr of such data where no repr is under way -/
def rRepr (K : PySem.W.Frag) : List V → Hp → VK → Prop := fun xs H Q => ∃ v d, xs = [v] ∧ D2 K H v d ∧ d.showable = true ∧
  d.shown.length ≤ sizeLine ∧ d.depth ≤ 60 ∧ Q (.str d.shown) H
section
variable {X : Cx}
theorem call_repr (hG : X.A.guards = some []) (hu : X.A.units + 64 < cLine) : CallR X (.builtin "repr") (rRepr X.K) := by
  intro pins s σ H xs us Q I rel h
  obtain ⟨v, d, rfl, hd, hs, hz, hdep, q⟩ := h
  obtain ⟨u, rfl, r⟩ := vals1 rel
  cases hd with
  | d1 h1 =>
    cases h1 with
    | dp hp =>
      cases hp with
      | non =>
        cases (show u = Value.none from r)
        simp only [PyData.shown] at q
        exact PySem.P.repr_of_none ⟨.str _, H, I.tok _, ⟨_, rfl⟩, q⟩
      | bl b =>
        cases (show u = Value.bool b from r)
        simp only [PyData.shown] at q
        exact PySem.P.repr_of_bool ⟨.str _, H, I.tok _, ⟨_, rfl⟩, q⟩
      | int i =>
        obtain ⟨t, rfl⟩ := (show ∃ t, u = Value.int i t from r)
        simp only [PyData.shown] at q
        exact PySem.P.repr_of_int (by simpa [PyData.showable] using hs) ⟨.str _, H, I.tok _, ⟨_, rfl⟩, q⟩
      | str x =>
        obtain ⟨t, rfl⟩ := (show ∃ t, u = Value.str x t from r)
        simp only [PyData.shown] at q hz
        exact PySem.P.repr_of_str ⟨.str _, H, I.tok _, ⟨_, rfl⟩, q⟩ hz
      | @lst a ys ds hl ha =>
        cases (show u = Value.ref a from r)
        obtain ⟨as, rd, hm⟩ := (D1.dp (.lst hl ha) : D1 X.K H (.ref a) (.list ds)).rd I rfl
        exact repr_of_reads' rd hs hm hG (by omega) (fun _ _ z => z) (fun h' u tk hk => ⟨.str _, H, I.kept hk, ⟨_, rfl⟩, q⟩) hz
      | @tup a ys ds hl ha =>
        cases (show u = Value.ref a from r)
        obtain ⟨as, rd, hm⟩ := (D1.dp (.tup hl ha) : D1 X.K H (.ref a) (.tuple ds)).rd I rfl
        exact repr_of_reads' rd hs hm hG (by omega) (fun _ _ z => z) (fun h' u tk hk => ⟨.str _, H, I.kept hk, ⟨_, rfl⟩, q⟩) hz
    | @emp a ha =>
      cases (show u = Value.ref a from r)
      obtain ⟨as, rd, hm⟩ := (D1.emp ha : D1 X.K H (.ref a) (.dict [])).rd I rfl
      exact repr_of_reads' rd hs hm hG (by omega) (fun _ _ z => z) (fun h' u tk hk => ⟨.str _, H, I.kept hk, ⟨_, rfl⟩, q⟩) hz
  | @lst a ys ds hl ha =>
    cases (show u = Value.ref a from r)
    obtain ⟨its, rv, ⟨o, n, ho, hc, _, ho2⟩, _⟩ := I.list hl
    obtain ⟨as, rda⟩ := ha.rd I rv
    have hz' : (listText (PyData.shownAll ds)).length ≤ sizeLine := by simpa only [PyData.shown] using hz
    simp only [PyData.depth] at hdep
    obtain ⟨bs, hb, hk⟩ := ha.each I rv (by simpa [PyData.showable] using hs) (fun t ht => Nat.le_trans (listText_mem_le ht) hz') (Nat.le_refl _)
    have hna : a ∉ bs := not_mem_of_deeper (.list ho hc ho2 rda) (by simp only [PyData.depth]; omega) hb
    simp only [PyData.shown] at q
    have ty : s.TypeIs (.ref a) "list" := ⟨o, ho, hc⟩
    have fin : ∀ h' u tk, (∀ b o, s.heap.get? b = some o → h'.get? b = some o) →
        EP X pins σ Q (.str (listText (PyData.shownAll ds)) u) { s with heap := h', toks := tk } :=
      fun h' u tk hk => ⟨.str _, H, I.kept hk, ⟨_, rfl⟩, q⟩
    refine call_repr_slot (by omega) ty PySem.F.slot_list_repr.toG ?_
    cases its with
    | nil =>
      cases rda
      simp only [PyData.shownAll, listText_nil] at fin
      exact call_list_repr_empty ty ho ho2 ⟨_, _, rfl, fin s.heap _ _ fun _ _ e => e⟩
    | cons x l =>
      exact call_list_reprK ho hc ho2 hna (by simpa using hk.length_eq) (fun i y e => hk.item i y (by simpa using e)) hG
        (fun b _ => Clear.nil b) (by show X.A.units + 1 + (_ + 1) < cLine; omega) (fun _ _ z => z) (fun h' u tk hk => ⟨_, _, rfl, fin h' u tk hk⟩) hz'
  | @tup a ys ds hl ha =>
    cases (show u = Value.ref a from r)
    obtain ⟨its, rv, ⟨o, ho, hc, n, ho2⟩, _⟩ := I.tuple hl
    obtain ⟨as, rda⟩ := ha.rd I rv
    have hz' : (tupleText (PyData.shownAll ds)).length ≤ sizeLine := by simpa only [PyData.shown] using hz
    simp only [PyData.depth] at hdep
    obtain ⟨bs, hb, hk⟩ := ha.each I rv (by simpa [PyData.showable] using hs) (fun t ht => Nat.le_trans (tupleText_mem_le ht) hz') (Nat.le_refl _)
    have hna : a ∉ bs := not_mem_of_deeper (.tuple ho hc ho2 rda) (by simp only [PyData.depth]; omega) hb
    simp only [PyData.shown] at q
    have ty : s.TypeIs (.ref a) "tuple" := ⟨o, ho, hc⟩
    refine call_repr_slot (by omega) ty PySem.F.slot_tuple_repr ?_
    exact call_tuple_reprK ho hc ho2 hna (by simpa using hk) hG (fun b _ => Clear.nil b) (by show X.A.units + 1 + (_ + 1) < cLine; omega) (fun _ _ z => z)
      (fun h' u tk hk => ⟨_, _, rfl, ⟨.str _, H, I.kept hk, ⟨_, rfl⟩, q⟩⟩) hz'
end
end Gd
namespace Gd
open PySem PySem.Spec PyProof.Rows L2
/-- a def of the top, with its name -/
structure DefAt (K : PySem.W.Frag) (mg : Str → Option Value) (x : Str) (st : Stmt) (ps : List Str) : Prop where
  ex : ∃ (f : Addr) (fd : FuncData), Fun K x x st f fd ∧ mg x = some (.ref f) ∧ Binds K fd ps []
/-- a def by its name, its promise kept where no repr is under way -/
structure CalG (P : Program) (w : World) (K : PySem.W.Frag) (mg : Str → Option Value) (base : Heap) (k : Nat) (x : Str) (sp : Sp) : Prop where
  ex : ∃ (f : Addr) (fd : FuncData) (ps : List Str), FnG P w K mg base CX0 k f fd ps sp ∧ mg x = some (.ref f) ∧
    PySem.W.keepIn K (.ref f) = true ∧ Binds K fd ps []
section
variable {P : Program} {w : World} {K : PySem.W.Frag} {mg : Str → Option Value} {base : Heap}
theorem DefAt.cal {x : Str} {st : Stmt} {N ps : List Str} {k : Nat} {sp : Sp} (D : DefAt K mg x st ps) (S : FnScope N ps (defScope st))
    (ar : ∀ vs H Q E, sp vs H Q E → vs.length = ps.length)
    (bd : ∀ (f : Addr) (cdv : Value) (A : Around) (outer : List Env) (s : Shared) (H : Hp) (vs : List V) (Q : VK) (E : XK),
      A.guards = some [] → Room k (A.deeper (envOfC x (defScope st) s.heap.objs.size f cdv)) → sp vs H Q E →
      ∃ t, PSs (cxOf CX0 P w K mg base N x (defScope st) f cdv A outer s H E).nox (defBody st) t ∧
        t { nx := fun _ H' => Q .non H', rt := Q } (start N vs) H) : CalG P w K mg base (k + 1) x sp := by
  obtain ⟨f, fd, F, m, b⟩ := D.ex
  exact ⟨f, fd, ps, okG F S ar (bd f), m, F.kp, b⟩
theorem DefAt.mk' {X : K.In base} {x : Str} {st : Stmt} {ps : List Str} {f : Addr} {oc : Value} {od an : Option Addr} {osl : Array (Option Value)} {kV doc pm cdv ct : Value}
    (m : mg x = some (.ref f))
    (l : K.lookup f = some ⟨oc, od, .func (PySem.W.fnOf x x (defArgs st) (defBody st) (defScope st) .none kV doc pm an cdv ct), osl⟩)
    (c : PySem.W.codeIn K cdv x = true) (k : PySem.W.keepIn K (.ref f) = true)
    (b : ∀ (kV doc pm : Value) (an : Option Addr) (cdv ct : Value) (us : List Value), us.length = ps.length →
      bindArgs (PySem.W.fnOf x x (defArgs st) (defBody st) (defScope st) .none kV doc pm an cdv ct) ⟨us, []⟩ = pure (ps.zip us)) :
    DefAt K mg x st ps := by
  have F := fun_mk (st := st) l c k
  exact ⟨f, _, F, m, F.binds b⟩
end
section
variable {X : Cx} {k : Nat} {sp : Sp} {x : Str} {p pos : Pos} {e : Expr} {es : List Expr} {t : TA}
theorem pe_g (c : CalG X.prog X.w X.K X.mg X.base k x sp) (hG : X.A.guards = some []) (hr : Room k X.A) (hg : Gl X x)
    (ha : PA X (e :: es) t) (hdb : (x == ("__debug__" : Str)) = false := by decide)
    (he : starEach (e :: es) X.env = (false, eval e X.env) :: starEach es X.env := by rfl)
    (hpl : (backTo pos (starEach es X.env)).any (·.1) = false := by rfl) :
    PE X (.Call (.Name x p) (e :: es) [] pos) (tCall sp [] E0 t) := by
  obtain ⟨f, fd, ps, F, m, kp, b⟩ := c.ex
  exact pe_callG F hG hr hg m kp b .nil pass0 ha hdb he hpl
/-- a module's constant, a whole number -/
def GInt (mg : Str → Option Value) (x : Str) (n : Int) : Prop := ∃ t, mg x = some (.int n t)
theorem pe_gi {n : Int} (hg : Gl X x) (h : GInt X.mg x n) (hd : (x == ("__debug__" : Str)) = false := by decide) : PE X (.Name x pos) (tC (.int n)) := by
  obtain ⟨t, h⟩ := h
  exact pe_glob hg h ⟨t, rfl⟩ hd
/-- a module's constant, a text -/
def GStr (mg : Str → Option Value) (x : Str) (z : Str) : Prop := ∃ t, mg x = some (.str z t)
theorem pe_gs {z : Str} (hg : Gl X x) (h : GStr X.mg x z) (hd : (x == ("__debug__" : Str)) = false := by decide) : PE X (.Name x pos) (tC (.str z)) := by
  obtain ⟨t, h⟩ := h
  exact pe_glob hg h ⟨t, rfl⟩ hd
theorem hu64 {A : Around} (hr : Room k A) : A.units + 64 < cLine := by
  have := hr.un
  omega
/-- x is True, x is False, for any x -/
def isB (x : V) (b : Bool) : Bool := match x with
  | .bl a => a == b
  | _ => false
theorem op_isB : OpR X (compareOp .Is) (fun x y H Q => ∃ b, y = .bl b ∧ Q (.bl (isB x b)) H) := by
  intro pins s σ H x y v u Q I rx ry h
  obtain ⟨b, rfl, q⟩ := h
  cases (show u = Value.bool b from ry)
  cases x with
  | non =>
    cases (show v = Value.none from rx)
    exact wpAny_is_other rfl (fun z => nomatch z) ⟨.bl false, H, I, rfl, q⟩
  | bl a =>
    cases (show v = Value.bool a from rx)
    by_cases e : a = b
    · subst e
      refine wpAny_is_self rfl ⟨.bl true, H, I, rfl, ?_⟩
      simpa [isB] using q
    · refine wpAny_is_other rfl (fun z => e (Value.bool.inj z)) ⟨.bl false, H, I, rfl, ?_⟩
      have e2 : isB (.bl a) b = false := beq_eq_false_iff_ne.mpr e
      rw [e2] at q
      exact q
  | int i =>
    obtain ⟨t, rfl⟩ := (show ∃ t, v = Value.int i t from rx)
    exact wpAny_is_other rfl (fun z => nomatch z) ⟨.bl false, H, I, rfl, q⟩
  | str i =>
    obtain ⟨t, rfl⟩ := (show ∃ t, v = Value.str i t from rx)
    exact wpAny_is_other rfl (fun z => nomatch z) ⟨.bl false, H, I, rfl, q⟩
  | byt i =>
    obtain ⟨t, rfl⟩ := (show ∃ t, v = Value.bytes i t from rx)
    exact wpAny_is_other rfl (fun z => nomatch z) ⟨.bl false, H, I, rfl, q⟩
  | flt i =>
    obtain ⟨t, rfl⟩ := (show ∃ t, v = Value.float i t from rx)
    exact wpAny_is_other rfl (fun z => nomatch z) ⟨.bl false, H, I, rfl, q⟩
  | ref i =>
    cases (show v = Value.ref i from rx)
    exact wpAny_is_other rfl (fun z => nomatch z) ⟨.bl false, H, I, rfl, q⟩
  | ty i =>
    cases (show v = Value.type i from rx)
    exact wpAny_is_other rfl (fun z => nomatch z) ⟨.bl false, H, I, rfl, q⟩
theorem op_isntB : OpR X (compareOp .IsNot) (fun x y H Q => ∃ b, y = .bl b ∧ Q (.bl (!isB x b)) H) := by
  intro pins s σ H x y v u Q I rx ry h
  obtain ⟨b, rfl, q⟩ := h
  cases (show u = Value.bool b from ry)
  cases x with
  | non =>
    cases (show v = Value.none from rx)
    exact wpAny_isNot_other rfl (fun z => nomatch z) ⟨.bl true, H, I, rfl, q⟩
  | bl a =>
    cases (show v = Value.bool a from rx)
    by_cases e : a = b
    · subst e
      refine wpAny_isNot_self rfl ⟨.bl false, H, I, rfl, ?_⟩
      simpa [isB] using q
    · refine wpAny_isNot_other rfl (fun z => e (Value.bool.inj z)) ⟨.bl true, H, I, rfl, ?_⟩
      have e2 : isB (.bl a) b = false := beq_eq_false_iff_ne.mpr e
      rw [e2] at q
      exact q
  | int i =>
    obtain ⟨t, rfl⟩ := (show ∃ t, v = Value.int i t from rx)
    exact wpAny_isNot_other rfl (fun z => nomatch z) ⟨.bl true, H, I, rfl, q⟩
  | str i =>
    obtain ⟨t, rfl⟩ := (show ∃ t, v = Value.str i t from rx)
    exact wpAny_isNot_other rfl (fun z => nomatch z) ⟨.bl true, H, I, rfl, q⟩
  | byt i =>
    obtain ⟨t, rfl⟩ := (show ∃ t, v = Value.bytes i t from rx)
    exact wpAny_isNot_other rfl (fun z => nomatch z) ⟨.bl true, H, I, rfl, q⟩
  | flt i =>
    obtain ⟨t, rfl⟩ := (show ∃ t, v = Value.float i t from rx)
    exact wpAny_isNot_other rfl (fun z => nomatch z) ⟨.bl true, H, I, rfl, q⟩
  | ref i =>
    cases (show v = Value.ref i from rx)
    exact wpAny_isNot_other rfl (fun z => nomatch z) ⟨.bl true, H, I, rfl, q⟩
  | ty i =>
    cases (show v = Value.type i from rx)
    exact wpAny_isNot_other rfl (fun z => nomatch z) ⟨.bl true, H, I, rfl, q⟩
end
/-! names of the built-ins -/
theorem boot_len_ : bootBuiltins "len" = some (.builtin "len") := by decide +kernel
theorem boot_max_ : bootBuiltins "max" = some (.builtin "max") := by decide +kernel
theorem boot_min_ : bootBuiltins "min" = some (.builtin "min") := by decide +kernel
theorem boot_abs_ : bootBuiltins "abs" = some (.builtin "abs") := by decide +kernel
theorem boot_all_ : bootBuiltins "all" = some (.builtin "all") := by decide +kernel
theorem boot_repr_ : bootBuiltins "repr" = some (.builtin "repr") := by decide +kernel
theorem boot_isinstance_ : bootBuiltins "isinstance" = some (.builtin "isinstance") := by decide +kernel
theorem boot_int_ : bootBuiltins "int" = some (.type "int") := by decide +kernel
theorem boot_bool_ : bootBuiltins "bool" = some (.type "bool") := by decide +kernel
theorem boot_str_ : bootBuiltins "str" = some (.type "str") := by decide +kernel
theorem boot_list_ : bootBuiltins "list" = some (.type "list") := by decide +kernel
theorem boot_tuple_ : bootBuiltins "tuple" = some (.type "tuple") := by decide +kernel
theorem boot_dict_ : bootBuiltins "dict" = some (.type "dict") := by decide +kernel

/-! ### the box of a cell: what is drawn of it is any number below the bound -/
def BoxAt (H : Hp) (b : Addr) : Prop := ∃ x y z : Int, 0 ≤ x ∧ 0 ≤ y ∧ y < 2147483629 ∧ H b = some (.lst [.int x, .int y, .int z])
/-- all but the box is kept -/
def Kp (b : Addr) (H H' : Hp) : Prop := ∀ c o, c ≠ b → H c = some o → H' c = some o
theorem Kp.refl {b : Addr} {H : Hp} : Kp b H H := fun _ _ _ z => z
theorem Kp.trans {b : Addr} {H H1 H2 : Hp} (h : Kp b H H1) (k : Kp b H1 H2) : Kp b H H2 := fun c o n z => k c o n (h c o n z)
theorem Kp.upd {b p : Addr} {H H' : Hp} {o : HO} (h : Kp b H H') (n : H' p = none) : Kp b H (upd H' p o) := fun c u hc z => by
  have z2 := h c u hc z
  rw [upd_ne (ne_of_none z2 n)]
  exact z2
theorem BoxAt.upd {b p : Addr} {H : Hp} {o : HO} (h : BoxAt H b) (n : H p = none) : BoxAt (L2.upd H p o) b := by
  obtain ⟨x, y, z, h1, h2, h3, h4⟩ := h
  refine ⟨x, y, z, h1, h2, h3, ?_⟩
  rw [upd_ne (ne_of_none h4 n)]
  exact h4
theorem BoxAt.ne {b p : Addr} {H : Hp} (h : BoxAt H b) (n : H p = none) : p ≠ b := by
  obtain ⟨x, y, z, _, _, _, h4⟩ := h
  exact (ne_of_none h4 n).symm
def spTake : Sp := fun vs H Q _ => ∃ (b : Addr) (m : Int), vs = [.ref b, .int m] ∧ BoxAt H b ∧ 0 < m ∧ m ≤ 1000000000 ∧
  ∀ (d : Int) (H' : Hp), 0 ≤ d → d < m → BoxAt H' b → (∀ c, c ≠ b → H' c = H c) → Q (.int d) H'
def spCell (K : PySem.W.Frag) : Sp := fun vs H Q _ => ∃ (a : Addr) (ns : List Int) (k : Int), vs = [.ref a, .int k] ∧ SqL K H a (ns.map V.int) ∧
  ns.length ≤ 63 ∧ 0 ≤ k ∧ ∀ n : Int, Q (.int n) H
def spBox : Sp := fun vs H Q _ => ∃ n : Int, vs = [.int n] ∧ ∀ (b : Addr) (H' : Hp), H b = none → BoxAt H' b → (∀ c, c ≠ b → H' c = H c) → Q (.ref b) H'
theorem kp_of {b : Addr} {H H' : Hp} (h : ∀ c, c ≠ b → H' c = H c) : Kp b H H' := fun c o n z => by
  rw [h c n]
  exact z
theorem atI_ints {ns : List Int} {k : Int} (h0 : 0 ≤ k) (h1 : k < ns.length) : ∃ n, atI (ns.map V.int) k = some (.int n) := by
  obtain ⟨j, rfl⟩ : ∃ j : Nat, k = j := ⟨k.toNat, by omega⟩
  have hj : j < ns.length := by omega
  refine ⟨ns[j], atI_nat ?_⟩
  rw [List.getElem?_map, List.getElem?_eq_getElem hj]
  rfl
end Gd
namespace Gd
open PySem PySem.Spec PyProof.Rows L2
/-! ### data by its shape -/
/-- all but what N names is kept -/
def Kq (N : Addr → Prop) (H H' : Hp) : Prop := ∀ c o, ¬ N c → H c = some o → H' c = some o
mutual
/-- the value shows the data d, laid in objects that N does not name -/
inductive Da (H : Hp) (N : Addr → Prop) : V → PyData → Prop
  | non : Da H N .non .none
  | bl (b : Bool) : Da H N (.bl b) (.bool b)
  | int (i : Int) : Da H N (.int i) (.int i)
  | str (x : Str) : Da H N (.str x) (.str x)
  | lst {a : Addr} {xs : List V} {ds : List PyData} : ¬ N a → H a = some (.lst xs) → Das H N xs ds → Da H N (.ref a) (.list ds)
  | tup {a : Addr} {xs : List V} {ds : List PyData} : ¬ N a → H a = some (.tup xs) → Das H N xs ds → Da H N (.ref a) (.tuple ds)
inductive Das (H : Hp) (N : Addr → Prop) : List V → List PyData → Prop
  | nil : Das H N [] []
  | cons {v : V} {vs : List V} {d : PyData} {ds : List PyData} : Da H N v d → Das H N vs ds → Das H N (v :: vs) (d :: ds)
end
mutual
theorem Da.kq {H H' : Hp} {N : Addr → Prop} (k : Kq N H H') : ∀ {v : V} {d : PyData}, Da H N v d → Da H' N v d
  | _, _, .non => .non
  | _, _, .bl b => .bl b
  | _, _, .int i => .int i
  | _, _, .str x => .str x
  | _, _, .lst n h s => .lst n (k _ _ n h) (Das.kq k s)
  | _, _, .tup n h s => .tup n (k _ _ n h) (Das.kq k s)
theorem Das.kq {H H' : Hp} {N : Addr → Prop} (k : Kq N H H') : ∀ {vs : List V} {ds : List PyData}, Das H N vs ds → Das H' N vs ds
  | _, _, .nil => .nil
  | _, _, .cons h s => .cons (Da.kq k h) (Das.kq k s)
end
mutual
theorem Da.wk {H : Hp} {N M : Addr → Prop} (k : ∀ a, M a → N a) : ∀ {v : V} {d : PyData}, Da H N v d → Da H M v d
  | _, _, .non => .non
  | _, _, .bl b => .bl b
  | _, _, .int i => .int i
  | _, _, .str x => .str x
  | _, _, .lst n h s => .lst (fun z => n (k _ z)) h (Das.wk k s)
  | _, _, .tup n h s => .tup (fun z => n (k _ z)) h (Das.wk k s)
theorem Das.wk {H : Hp} {N M : Addr → Prop} (k : ∀ a, M a → N a) : ∀ {vs : List V} {ds : List PyData}, Das H N vs ds → Das H M vs ds
  | _, _, .nil => .nil
  | _, _, .cons h s => .cons (Da.wk k h) (Das.wk k s)
end
mutual
theorem Da.dp {K : PySem.W.Frag} {H : Hp} {N : Addr → Prop} : ∀ {v : V} {d : PyData}, Da H N v d → Dp K H v d
  | _, _, .non => .non
  | _, _, .bl b => .bl b
  | _, _, .int i => .int i
  | _, _, .str x => .str x
  | _, _, .lst _ h s => .lst (SqL.of h) (Das.dp s)
  | _, _, .tup _ h s => .tup (SqT.of h) (Das.dp s)
theorem Das.dp {K : PySem.W.Frag} {H : Hp} {N : Addr → Prop} : ∀ {vs : List V} {ds : List PyData}, Das H N vs ds → DpAll K H vs ds
  | _, _, .nil => .nil
  | _, _, .cons h s => .cons (Da.dp h) (Das.dp s)
end
theorem Das.len {H : Hp} {N : Addr → Prop} : ∀ {vs : List V} {ds : List PyData}, Das H N vs ds → vs.length = ds.length
  | _, _, .nil => rfl
  | _, _, .cons _ s => by rw [List.length_cons, List.length_cons, s.len]
theorem Das.get {H : Hp} {N : Addr → Prop} : ∀ {vs : List V} {ds : List PyData} {i : Nat} {v : V}, Das H N vs ds → vs[i]? = some v → ∃ d, ds[i]? = some d ∧ Da H N v d
  | _, _, 0, _, .cons h _, e => ⟨_, rfl, by
      have e2 := Option.some.inj e
      subst e2
      exact h⟩
  | _, _, i + 1, v, .cons _ s, e => s.get (i := i) (v := v) e
  | _, _, i, _, .nil, e => by simp at e
theorem Das.snoc {H : Hp} {N : Addr → Prop} {v : V} {d : PyData} : ∀ {vs : List V} {ds : List PyData}, Das H N vs ds → Da H N v d → Das H N (vs ++ [v]) (ds ++ [d])
  | _, _, .nil, h => .cons h .nil
  | _, _, .cons g s, h => .cons g (s.snoc h)
theorem Das.set {H : Hp} {N : Addr → Prop} {v : V} {d : PyData} : ∀ {vs : List V} {ds : List PyData} {i : Nat}, Das H N vs ds → Da H N v d → Das H N (vs.set i v) (ds.set i d)
  | _, _, _, .nil, _ => .nil
  | _, _, 0, .cons _ s, h => .cons h s
  | _, _, _ + 1, .cons g s, h => .cons g (s.set h)

theorem same_sqT {K : PySem.W.Frag} {H H' : Hp} {a : Addr} {xs : List V} (s : Same H H') (h : SqT K H a xs) : SqT K H' a xs := by
  rcases h with h | h
  · refine .inl ?_
    rcases h with h | ⟨o, h⟩
    · exact .inl (s _ _ h)
    · exact .inr ⟨o, s _ _ h⟩
  · exact .inr h
mutual
theorem dpSame {K : PySem.W.Frag} {H H' : Hp} (s : Same H H') : ∀ {v : V} {d : PyData}, Dp K H v d → Dp K H' v d
  | _, _, .non => .non
  | _, _, .bl b => .bl b
  | _, _, .int i => .int i
  | _, _, .str x => .str x
  | _, _, .lst h r => .lst (s.seq h) (dpSames s r)
  | _, _, .tup h r => .tup (same_sqT s h) (dpSames s r)
theorem dpSames {K : PySem.W.Frag} {H H' : Hp} (s : Same H H') : ∀ {vs : List V} {ds : List PyData}, DpAll K H vs ds → DpAll K H' vs ds
  | _, _, .nil => .nil
  | _, _, .cons h r => .cons (dpSame s h) (dpSames s r)
end
theorem dpLen {K : PySem.W.Frag} {H : Hp} : ∀ {vs : List V} {ds : List PyData}, DpAll K H vs ds → vs.length = ds.length
  | _, _, .nil => rfl
  | _, _, .cons _ s => by rw [List.length_cons, List.length_cons, dpLen s]
theorem dpGet {K : PySem.W.Frag} {H : Hp} : ∀ {vs : List V} {ds : List PyData} {i : Nat} {v : V}, DpAll K H vs ds → vs[i]? = some v → ∃ d, ds[i]? = some d ∧ Dp K H v d
  | _, _, 0, _, .cons h _, e => ⟨_, rfl, by
      have e2 := Option.some.inj e
      subst e2
      exact h⟩
  | _, _, i + 1, v, .cons _ s, e => dpGet (i := i) (v := v) s e
  | _, _, i, _, .nil, e => by simp at e
theorem d1Same {K : PySem.W.Frag} {H H' : Hp} (s : Same H H') {v : V} {d : PyData} (h : D1 K H v d) : D1 K H' v d := by
  cases h with
  | dp h => exact .dp (dpSame s h)
  | emp h => exact .emp (s _ _ h)
/-! ### the class of data -/
def tyN : PyData → String
  | .none => "NoneType"
  | .bool _ => "bool"
  | .int _ => "int"
  | .str _ => "str"
  | .list _ => "list"
  | .tuple _ => "tuple"
  | .dict _ => "dict"
def isIntD : PyData → Bool
  | .bool _ => true
  | .int _ => true
  | _ => false
def isBoolD : PyData → Bool
  | .bool _ => true
  | _ => false
def isStrD : PyData → Bool
  | .str _ => true
  | _ => false
def isTupD : PyData → Bool
  | .tuple _ => true
  | _ => false
def isSeqD : PyData → Bool
  | .list _ => true
  | .tuple _ => true
  | _ => false
theorem tyL {K : PySem.W.Frag} {H : Hp} {a : Addr} {xs : List V} (h : SqL K H a xs) : TyX K H (.ref a) (.type "list") := by
  rcases h with h | ⟨o, _, _, h, hc, _⟩
  · rcases h with h | ⟨o, h⟩
    · exact .base (.lst h)
    · exact .base (.frz h)
  · exact .kList h hc
theorem tyT {K : PySem.W.Frag} {H : Hp} {a : Addr} {xs : List V} (h : SqT K H a xs) : TyX K H (.ref a) (.type "tuple") := by
  rcases h with h | ⟨o, _, _, h, hc, _⟩
  · rcases h with h | ⟨o, h⟩
    · exact .base (.tup h)
    · exact .fTuple h
  · exact .kTuple h hc
theorem tyD {K : PySem.W.Frag} {H : Hp} {v : V} {d : PyData} (h : D1 K H v d) : TyX K H v (.type (tyN d)) := by
  cases h with
  | dp h =>
    cases h with
    | non => exact .base .non
    | bl b => exact .base (.bl b)
    | int i => exact .base (.int i)
    | str x => exact .base (.str x)
    | lst h _ => exact tyL h
    | tup h _ => exact tyT h
  | emp h => exact .base (.dK h)
theorem kInt {K : PySem.W.Frag} (d : PyData) : PySem.W.kitOne K (.type (tyN d)) (.type "int") = some (isIntD d) := by
  cases d
  all_goals exact kit_ty (by simp only [tyN, isIntD]; decide +kernel)
theorem kBool {K : PySem.W.Frag} (d : PyData) : PySem.W.kitOne K (.type (tyN d)) (.type "bool") = some (isBoolD d) := by
  cases d
  all_goals exact kit_ty (by simp only [tyN, isBoolD]; decide +kernel)
theorem kStr {K : PySem.W.Frag} (d : PyData) : PySem.W.kitOne K (.type (tyN d)) (.type "str") = some (isStrD d) := by
  cases d
  all_goals exact kit_ty (by simp only [tyN, isStrD]; decide +kernel)
theorem kTup {K : PySem.W.Frag} (d : PyData) : PySem.W.kitOne K (.type (tyN d)) (.type "tuple") = some (isTupD d) := by
  cases d
  all_goals exact kit_ty (by simp only [tyN, isTupD]; decide +kernel)
theorem kLst {K : PySem.W.Frag} (d : PyData) : PySem.W.kitOne K (.type (tyN d)) (.type "list") = some (isSeqD d && !isTupD d) := by
  cases d
  all_goals exact kit_ty (by simp only [tyN, isSeqD, isTupD]; decide +kernel)
theorem kSeq {K : PySem.W.Frag} (d : PyData) : PySem.W.kitAny K (.type (tyN d)) [.type "list", .type "tuple"] = some (isSeqD d) := by
  refine kitAny_cons (kLst d) (fun z => kitAny_cons (kTup d) (fun y => ?_) fun y => ?_) fun z => ?_
  · have e : isSeqD d = false := by
      cases d
      all_goals simp_all [isSeqD, isTupD]
    rw [e]
    exact kitAny_nil
  · cases d
    all_goals simp_all [isSeqD, isTupD]
  · cases d
    all_goals simp_all [isSeqD, isTupD]
theorem clsSeq : Paired ClsV [.ty "list", .ty "tuple"] [.type "list", .type "tuple"] := .cons (.ty _) (.cons (.ty _) .nil)
/-! ### how long it is when shown -/
def Big (n : Int) : Prop := -(10 ^ 40) ≤ n ∧ n ≤ 10 ^ 40
theorem big_log {n : Int} (h : Big n) : n.natAbs.log2 < 1920 := by
  have h0 : n.natAbs < 2 ^ 1920 := by
    have h1 : n.natAbs ≤ 10 ^ 40 := by
      obtain ⟨h1, h2⟩ := h
      omega
    exact Nat.lt_of_le_of_lt h1 (by decide +kernel)
  by_cases z : n.natAbs = 0
  · rw [z]
    decide +kernel
  · exact (Nat.log2_lt z).mpr h0
/-- it may be shown, in so many signs, so deep -/
structure Okd (d : PyData) (m e : Nat) : Prop where
  sh : d.showable = true
  ln : d.shown.length ≤ m
  dp : d.depth ≤ e
theorem Okd.up {d : PyData} {m e m' e' : Nat} (h : Okd d m e) (h1 : m ≤ m') (h2 : e ≤ e') : Okd d m' e' := ⟨h.sh, Nat.le_trans h.ln h1, Nat.le_trans h.dp h2⟩
theorem okNone : Okd .none 5 0 := ⟨by simp only [PyData.showable], by simp only [PyData.shown]; decide +kernel, by simp only [PyData.depth]; decide⟩
theorem okBool (b : Bool) : Okd (.bool b) 5 0 := by
  refine ⟨by simp only [PyData.showable], ?_, by simp only [PyData.depth]; decide⟩
  cases b
  · simp only [PyData.shown]
    decide +kernel
  · simp only [PyData.shown]
    decide +kernel
theorem okInt {n : Int} (h : Big n) : Okd (.int n) 50 0 := by
  refine ⟨?_, ?_, by simp only [PyData.depth]; decide⟩
  · simp only [PyData.showable, decide_eq_true_eq]
    exact big_log h
  · simp only [PyData.shown]
    rw [PySem.ofString_length]
    have h1 : n.natAbs < 10 ^ 41 := by
      have h1 : n.natAbs ≤ 10 ^ 40 := by
        obtain ⟨h1, h2⟩ := h
        omega
      exact Nat.lt_of_le_of_lt h1 (by decide +kernel)
    exact Nat.le_trans (int_text_length_le10 (k := 41) (by decide) h1) (by decide)
theorem okStr {x : Str} {m : Nat} (h : (reprText x).length ≤ m) : Okd (.str x) m 0 :=
  ⟨by simp only [PyData.showable], by simp only [PyData.shown]; exact h, by simp only [PyData.depth]; decide⟩
theorem okEmp : Okd (.dict []) 5 1 := by
  refine ⟨by simp only [PyData.showable, PyData.showableKv], ?_, by simp only [PyData.depth, PyData.depthKv]; decide⟩
  simp only [PyData.shown, PyData.shownKv]
  decide +kernel
theorem sum_le {m : Nat} : ∀ ts : List Str, (∀ t ∈ ts, t.length ≤ m) → (ts.map (·.length)).sum ≤ m * ts.length
  | [], _ => by simp
  | t :: r, h => by
    have h1 := h t List.mem_cons_self
    have h2 := sum_le r fun x hx => h x (List.mem_cons_of_mem _ hx)
    rw [List.map_cons, List.sum_cons, List.length_cons, Nat.mul_succ]
    show t.length + _ ≤ _
    omega
theorem oks {m e : Nat} : ∀ {ds : List PyData}, (∀ d ∈ ds, Okd d m e) → PyData.showableAll ds = true ∧ (∀ t ∈ PyData.shownAll ds, t.length ≤ m) ∧ PyData.depthAll ds ≤ e ∧ (PyData.shownAll ds).length = ds.length
  | [], _ => ⟨by simp only [PyData.showableAll], by simp [PyData.shownAll], by simp only [PyData.depthAll]; exact Nat.zero_le _, by simp only [PyData.shownAll]; rfl⟩
  | d :: r, h => by
    have a := h d List.mem_cons_self
    obtain ⟨b1, b2, b3, b4⟩ := oks fun x hx => h x (List.mem_cons_of_mem _ hx)
    refine ⟨by simp only [PyData.showableAll, a.sh, b1, Bool.and_self], ?_, ?_, by simp only [PyData.shownAll, List.length_cons, b4]⟩
    · intro t ht
      simp only [PyData.shownAll, List.mem_cons] at ht
      rcases ht with rfl | ht
      · exact a.ln
      · exact b2 t ht
    · have := a.dp
      simp only [PyData.depthAll]
      omega
theorem okList {ds : List PyData} {m e n : Nat} (h : ∀ d ∈ ds, Okd d m e) (l : ds.length ≤ n) : Okd (.list ds) (m * n + 2 * n + 3) (e + 1) := by
  obtain ⟨b1, b2, b3, b4⟩ := oks h
  refine ⟨by simp only [PyData.showable, b1], ?_, by simp only [PyData.depth]; omega⟩
  simp only [PyData.shown]
  have h1 := listText_len_le (PyData.shownAll ds)
  have h2 := sum_le _ b2
  rw [b4] at h1 h2
  have h3 : m * ds.length ≤ m * n := Nat.mul_le_mul_left m l
  omega
theorem okTuple {ds : List PyData} {m e n : Nat} (h : ∀ d ∈ ds, Okd d m e) (l : ds.length ≤ n) : Okd (.tuple ds) (m * n + 2 * n + 3) (e + 1) := by
  obtain ⟨b1, b2, b3, b4⟩ := oks h
  refine ⟨by simp only [PyData.showable, b1], ?_, by simp only [PyData.depth]; omega⟩
  simp only [PyData.shown]
  have h1 := tupleText_len_le (PyData.shownAll ds)
  have h2 := sum_le _ b2
  rw [b4] at h1 h2
  have h3 : m * ds.length ≤ m * n := Nat.mul_le_mul_left m l
  omega
theorem line_le {n : Nat} (h : n ≤ 1000000) : n ≤ sizeLine := Nat.le_trans h (by decide)
theorem bLn (B : Bool) : (PyData.bool B).shown.length ≤ sizeLine := Nat.le_trans (okBool B).ln (by decide)
theorem bDp (B : Bool) : (PyData.bool B).depth ≤ 60 := Nat.le_trans (okBool B).dp (by decide)
theorem ifSame {x : V} {A B : Prop} (h : B) : if (!decide (x = x)) = true then A else B := by
  rw [decide_eq_true rfl]
  exact h
/-! ### heaps and picks -/
theorem same_new {H : Hp} {p : Addr} {o : HO} (h : H p = none) : Same H (upd H p o) := fun b x e => by
  rw [upd_ne (ne_of_none e h)]
  exact e
theorem kep {H : Hp} {p q : Addr} {o u : HO} (h : H p = some o) (n : H q = none) : (upd H q u) p = some o := by
  rw [upd_ne (ne_of_none h n)]
  exact h
theorem upd_none {H : Hp} {p q : Addr} {o : HO} (h : upd H p o q = none) : H q = none := by
  unfold upd at h
  split at h
  · cases h
  · exact h
theorem pickL (xs : List V) {k : Int} (h0 : 0 ≤ k) (h1 : k < xs.length) : ∃ v, v ∈ xs ∧ atI xs k = some v := by
  obtain ⟨j, rfl⟩ : ∃ j : Nat, k = j := ⟨k.toNat, by omega⟩
  have hj : j < xs.length := by omega
  exact ⟨xs[j], List.getElem_mem hj, atI_nat (List.getElem?_eq_getElem hj)⟩
theorem pickK (xs : List V) {k : Int} (h0 : 0 ≤ k) (h1 : k < xs.length) : ∃ v, xs[k.toNat]? = some v ∧ atI xs k = some v := by
  obtain ⟨j, rfl⟩ : ∃ j : Nat, k = j := ⟨k.toNat, by omega⟩
  have hj : j < xs.length := by omega
  exact ⟨xs[j], List.getElem?_eq_getElem hj, atI_nat (List.getElem?_eq_getElem hj)⟩
theorem boxAway {H : Hp} {b D : Addr} {o : HO} (h : BoxAt H b) (n : D ≠ b) : BoxAt (upd H D o) b := by
  obtain ⟨x, y, z, h1, h2, h3, h4⟩ := h
  refine ⟨x, y, z, h1, h2, h3, ?_⟩
  rw [upd_ne n.symm]
  exact h4
theorem boxSame {b : Addr} {H H' : Hp} (h : BoxAt H b) (s : Same H H') : BoxAt H' b := by
  obtain ⟨x, y, z, h1, h2, h3, h4⟩ := h
  exact ⟨x, y, z, h1, h2, h3, s _ _ h4⟩
theorem same_kp {b : Addr} {H H' : Hp} (s : Same H H') : Kp b H H' := fun c o _ z => s c o z
theorem same_keep {H H' H'' : Hp} {b : Addr} (s : Same H H') (n : H' b = none) (k : ∀ c o, c ≠ b → H' c = some o → H'' c = some o) : Same H H'' := fun c o z =>
  k c o (ne_of_none (s c o z) n) (s c o z)
/-- new in H, where the box is b -/
def Nw (H : Hp) (b : Addr) : Addr → Prop := fun c => c = b ∨ ∃ o, H c = some o
theorem nw_of {H H' : Hp} {b p : Addr} (k : Kp b H H') (n : H' p = none) (hb : p ≠ b) : ¬ Nw H b p := by
  rintro (h | ⟨o, h⟩)
  · exact hb h
  · rw [k p o hb h] at n
    cases n
theorem Kp.kq {b : Addr} {H H' : Hp} {N : Addr → Prop} (k : Kp b H H') (n : N b) : Kq N H H' := fun c o hc z => k c o (fun e => hc (e ▸ n)) z
theorem defAt {K : PySem.W.Frag} {mg : Str → Option Value} {x : Str} {st : Stmt} {ps : List Str} {f : Addr} {oc : Value} {od an : Option Addr} {osl : Array (Option Value)} {kV doc pm cdv ct : Value}
    (m : mg x = some (.ref f))
    (l : K.lookup f = some ⟨oc, od, .func (PySem.W.fnOf x x (defArgs st) (defBody st) (defScope st) .none kV doc pm an cdv ct), osl⟩)
    (c : PySem.W.codeIn K cdv x = true) (k : PySem.W.keepIn K (.ref f) = true)
    (b : ∀ (kV doc pm : Value) (an : Option Addr) (cdv ct : Value) (us : List Value), us.length = ps.length →
      bindArgs (PySem.W.fnOf x x (defArgs st) (defBody st) (defScope st) .none kV doc pm an cdv ct) ⟨us, []⟩ = pure (ps.zip us)) :
    DefAt K mg x st ps := by
  have F := fun_mk (st := st) l c k
  exact ⟨f, _, F, m, F.binds b⟩
end Gd
/-! An own error whose __init__ says super().__init__(a text), then keeps the one thing it is made of. -/
namespace Ge
open PySem PySem.W PySem.Calls PyProof.Rows PySem.HandSPX
def iA (p1 p2 : Pos) : Arguments := { posonlyargs := [], args := [{ arg := "self", annotation := none, pos := p1 }, { arg := "found", annotation := none, pos := p2 }], vararg := none, kwonlyargs := [], kw_defaults := [], kwarg := none, defaults := [] }
def iB (msg : Str) (kk : Nat) (p1 p2 p3 p4 p5 p6 q1 q2 q3 q4 : Pos) : List Stmt :=
  [.Expr (.Call (.Attribute (.Call (.Name "super" p1) [] [] p2) "__init__" p3) [.Constant (.str msg) kk p4] [] p5) p6,
   .Assign [.Attribute (.Name "self" q1) "found" q2] (.Name "found" q3) q4]
def iS : Scope := { kind := .function, names := [(PySem.Str.ofString "self", .local), (PySem.Str.ofString "found", .local), (PySem.Str.ofString "__class__", .free), (PySem.Str.ofString "super", .globalImplicit)], isGenerator := false, isCoroutine := false, more := [] }
/-- what the written part says of the class at C and of its __init__ at fI -/
structure ErrTxt (P : Program) (K : Frag) (C fI : Addr) (qn msg : Str) : Prop where
  cls : ∃ nm q N bs bm sn sub ab col dd k0 k1 k2 k3 k5, K.lookup C = some (excClassObj nm q C N bs bm true sn sub ab col dd k0 k1 k2 k3 k5 "ValueError.__new__") ∧ refsVE bm = true
  sa : findIn K (.ref C) "__setattr__" = some (some (.builtin "object.__setattr__"))
  ga : findIn K (.ref C) "__getattribute__" = some (some (.builtin "BaseException.__getattribute__"))
  gg : findIn K (.ref C) "__getattr__" = some none
  noN : findIn K (.ref C) "found" = some none
  iC : findIn K (.ref C) "__init__" = some (some (.ref fI))
  tC : typeIn K (.ref fI) = some (.type "function")
  kC : keepIn K (.ref C) = true
  exC : subIn K (.ref C) (.type "BaseException") = some true
  veC : subIn K (.ref C) (.type "ValueError") = some true
  tyC : typeIn K (.ref C) = some (.type "type")
  hdC : hasDictIn K C = true
  sub : mroIn K C (.ref C) = some true
  sup : ks_superIn K C C "__init__" = some (some (.builtin "ValueError.__init__"))
  op : nsIn K cStatics "thirdparty.any" = some none
  zs : nsIn K mainGlobals "super" = some none
  htop : (P.main.scope.names.lookup ("super" : Str)).isSome = false
  fn : ∃ (oc : Value) (od : Option Addr) (doc pm : Value) (an : Option Addr) (cda cc : Addr) (ct : Value) (osl : Array (Option Value)) (kk : Nat) (p1 p2 p3 p4 p5 p6 q1 q2 q3 q4 r1 r2 : Pos) (ccl cl : Value) (cdd cld : Option Addr) (vs : Array Value) (ccs csl : Array (Option Value)) (file : Str) (tf : Tok),
    K.lookup fI = some ⟨oc, od, .func (ksFn "__init__" qn (iA r1 r2) (iB msg kk p1 p2 p3 p4 p5 p6 q1 q2 q3 q4) iS .none .none doc pm an (.ref cda) ct cc), osl⟩ ∧ codeIn K (.ref cda) qn = true ∧
    K.lookup cda = some ⟨ccl, cdd, .fields vs, ccs⟩ ∧ vs[2]? = some (.str file tf) ∧ ((P.main.file : Str) == file) = true ∧
    K.lookup cc = some ⟨cl, cld, .cell (some (.ref C)), csl⟩ ∧ (p3.endLine == p5.line) = true
/-- what __init__ leaves of a fresh exception at x -/
structure InitEnd (h h' : Heap) (x C dx t1 : Addr) (v : Value) : Prop where
  keep : ∀ b o, b ≠ x → h.get? b = some o → h'.get? b = some o
  obj : h'.get? x = some { cls := .ref C, dict := some dx, data := .fields #[.ref t1, .none, .none, .none, .bool false, .none] }
  dbig : h.objs.size ≤ dx
  dne : dx ≠ x
  ns : h'.Ns1 dx (fun y => if y = "found" then some v else none)
theorem iS_nocell : ∀ y ∈ iS.names, y.2 ≠ .cell := by decide +kernel
theorem iS_loc (x v : Value) : ∀ y ∈ ([(PySem.Str.ofString "self", x), (PySem.Str.ofString "found", v)] : List (Str × Value)), iS.names.lookup y.1 = some .local := by
  intro y hy
  simp only [List.mem_cons, List.not_mem_nil, or_false] at hy
  rcases hy with rfl | rfl
  · exact (by decide +kernel : iS.names.lookup (PySem.Str.ofString "self") = some .local)
  · exact (by decide +kernel : iS.names.lookup (PySem.Str.ofString "found") = some .local)
/-- o.name(..) in a body that is known to run, the call's line told -/
theorem at_method {M : Model} {A : Around} {c : Code} {E : Value → Shared → Prop} {s : Shared} {env : Env} {o : Expr} {name : Str} {apos pos : Pos} {args : List Expr} {Q : Value → Shared → Prop}
    (hl : (apos.endLine == pos.line) = true) (hf : methodCallForm (args.length + ([] : List Keyword).length) (backTo pos (starEach args env)) (backToKw pos (keywordEach [] env)) = true)
    (h : _root_.PySem.wpAt M A c (attributeBase o name env (eval o env)) (fun ov s₁ => wpAny M A (getMethod ov name (do return (← importBound o env).getD true))
      (fun fx s₂ => wpAny M A (callWith pos fx.1 fx.2 (backTo pos (starEach args env)) (backToKw pos (keywordEach [] env))) Q E s₂) E s₁) E s) :
    _root_.PySem.wpAt M A c (eval (.Call (.Attribute o name apos) args [] pos) env) Q E s := by
  rw [arm_eval_Call]
  apply _root_.PySem.wpAt_bind
  apply _root_.PySem.wpAt_mono h
  · intro ov s₁ h₁
    apply _root_.PySem.wpAt_of_wpAny
    apply wpAny_bind
    apply wpAny_standAt
    have hp : methodCallPos true o env apos pos = pure pos := by
      unfold methodCallPos
      simp [hl]
    unfold methodCall
    rw [hf]
    apply wpAny_bind
    apply wpAny_holding
    apply wpAny_mono h₁
    · intro fx s₂ h₂
      exact wpAny_bind (wpAny_of_eq hp h₂)
    · intro _ _ z
      exact z
  · intro _ _ z
    exact z
section
variable {prog : Program} {w : World} {A : Around} {E : Value → Shared → Prop} {R : Result → Shared → Prop} {s : Shared} {K : Frag} {mg mb : Str → Option Value} {C fI : Addr} {qn msg : Str}
theorem sup_call {h : Heap} {g : Array GenState} {d : Drawn} {t : Nat} {os : OsState} {u e t0 : Addr} {one : Value} {Q : Value → Shared → Prop}
    {nm q : Str} {N : Addr} {bs bm sub : List Value} {sn : List Str} {ab : Bool} {col : Option Bool} {dd : Option Addr} {k0 k1 k2 k3 k5 : Option Value}
    (hC : h.get? C = some (excClassObj nm q C N bs bm true sn sub ab col dd k0 k1 k2 k3 k5 "ValueError.__new__")) (he : h.get? e = some (excO C t0)) (hu : h.get? u = some (kxs_mw "ValueError.__init__" e))
    (hq : ∀ h' t1, (∀ b o, b ≠ e → h.get? b = some o → h'.get? b = some o) → h'.get? e = some (excO C t1) → Q .none ⟨h', g, d, t, os⟩) :
    wpAny (model prog w) A (call (.ref u) [one]) Q E ⟨h, g, d, t, os⟩ := by
  refine wpAny_call (codeAny_of_tree (show wpAny _ (Around.in1 _) (callAny (.ref u) ⟨[one], []⟩) _ _ _ from ?_))
  have e1 : (Value.type "method-wrapper" == Value.type "method" || Value.type "method-wrapper" == Value.type "builtin_function_or_method" || Value.type "method-wrapper" == Value.type "method-wrapper") = true := by decide
  simp only [callAny]
  refine wpAny_bind (m := load u) (wpAny_load hu ?_)
  simp only [kxs_mw, e1, if_true]
  refine (KFB.if_so (by decide) (wpAny_bind (check_bound_init F.excBase_ValueError.toExcCallFacts hC he rfl ?_)))
  refine (wpAny_bind (wpAny_pure (wpAny_pure (And.intro (plainId_quiet F.excBase_ValueError.init.plain _) (codeAny_builtin F.excBase_ValueError.initEntry ?_)))))
  have lz : [one].length ≤ sizeLine := by
    rw [sizeLine_eq]
    exact (by decide : 1 ≤ 16777216)
  exact exc_init_tree (cls := .ref C) (t0 := t0) (dv := none) (c2 := .none) (c3 := .none) (b4 := .bool false) he lz (fun h₄ k₄ hx₄ _ => hq h₄ _ k₄ hx₄)
theorem err_init (T : ErrTxt prog K C fI qn msg) {x t0 : Addr} {v : Value} (X : K.In s.heap) (lim : s.heap.NoLimit) (gl : s.heap.Ns mainGlobals mg) (bl : s.heap.Ns builtinsNs mb)
    (bb : ∀ x : Str, x ≠ "__name__" → mb x = bootBuiltins x) (hx : s.heap.get? x = some (excO C t0)) (hnx : K.lookup x = none) (room : A.depth < recursionLimit)
    (hq : ∀ h' tk dx t1, InitEnd s.heap h' x C dx t1 v → R (.ok (.ret .none)) { s with heap := h', toks := tk }) :
    codeAny (model prog w) A (.call (.ref fI) ⟨[.ref x, v], []⟩) R s := by
  obtain ⟨oc, od, doc, pm, an, cda, cc, ct, osl, kk, p1, p2, p3, p4, p5, p6, q1, q2, q3, q4, r1, r2, ccl, cl, cdd, cld, vs, ccs, csl, file, tf, ho, hcd, hcode, hvs, hfile, hcell, hline⟩ := T.fn
  obtain ⟨nm, q, N, bs, bm, sn, sub, ab, col, dd, k0, k1, k2, k3, k5, hC, hbm⟩ := T.cls
  have hzs := mg_none_of X gl T.zs
  obtain ⟨hp, g, dr, tk, os⟩ := s
  refine ks_codeAny_call_defAt (binds := [("self", .ref x), ("found", v)]) room (X _ _ ho) rfl lim (codeRec_of X hcd) rfl (BindsTo.of_eq (by first | rfl | with_unfolding_all rfl)) iS_nocell (iS_loc _ _) (fun h₁ hns k₁ => ?_) rfl rfl rfl
  have X₁ : K.In h₁ := X.keeps k₁
  have hx₁ := k₁ _ _ hx
  refine ks_wpAt_execs_cons (ks_wpAt_Expr_any (at_method hline (by first | rfl | with_unfolding_all rfl) ?_))
  refine ks_wpAt_super_base rfl rfl (by decide) rfl (X₁ _ _ ho) rfl rfl rfl (X₁ _ _ hcode) rfl hvs hfile T.htop ?_
  refine ks_loadName_global rfl rfl (loadGlobal_builtin (gl.keeps k₁) hzs (bl.keeps k₁) ((bb _ (by decide +kernel)).trans (by decide +kernel : bootBuiltins "super" = some (.type "super"))) ⟨rfl, ?_⟩)
  refine wpAny_loadName_free rfl rfl rfl ⟨_, X₁ _ _ hcell, rfl⟩ ?_
  refine wpAny_loadName_local rfl rfl hns (v := .ref x) (by first | rfl | with_unfolding_all rfl) ?_
  refine ks_wpAny_isType_cls (X₁ _ _ hC) rfl ⟨rfl, ?_⟩
  refine ks_wpAny_call_super (X₁ _ _ hC) rfl hx₁ rfl (fun c e => nomatch e) (looks_mroIn X₁ T.sub) (fun h₂ e₂ k₂ => ?_)
  have X₂ : K.In h₂ := X₁.keeps k₂
  have hx₂ := k₂ _ _ hx₁
  have I₂ : InstAt h₂ x (excO C t0) C none := ⟨hx₂, rfl, rfl, trivial⟩
  have hcl : clsIn K C = some { name := nm, bases := bs, mro := .ref C :: bm, ns := N, qualname := q, hasDict := true, slotNames := sn, subclasses := sub, abstract := ab, collection := col, hasDel := false } := by
    unfold clsIn
    rw [hC]
    all_goals rfl
  have hm := T.sup
  unfold ks_superIn at hm
  rw [hcl] at hm
  have hI : Looks (model prog w) h₂ (isInstance (.ref x) (.type "ValueError")) true := I₂.type.andThen (looks_subIn X₂ T.veC)
  have hxC : x ≠ C := fun z => by
    rw [z, hC] at hnx
    cases hnx
  refine kxs_getMethod kxs_ValueError e₂ (looks_opaque X₂ T.op) (l₀ := .ref C :: bm) ?_ rfl X₂ hm hI hxC (by decide +kernel) ?_
  · exact fun A Q E s k q => wpAny_bind ((looks_clsIn X₂ hcl) A _ E s k (wpAny_pure q))
  have hu : (h₂.push (kxs_mw "ValueError.__init__" x)).get? h₂.objs.size = some (kxs_mw "ValueError.__init__" x) := Heap.get?_push_at rfl rfl
  have k₃ : ∀ b o, h₂.get? b = some o → (h₂.push (kxs_mw "ValueError.__init__" x)).get? b = some o := fun b o e => Heap.get?_push_of_some _ e
  have X₃ : K.In (h₂.push (kxs_mw "ValueError.__init__" x)) := X₂.keeps k₃
  have hx₃ := k₃ _ _ hx₂
  refine kxs_callWith (i := "ValueError.__init__") (x := x) (by rfl) (evalArgs_plain ?_)
  refine Calls.spliced_cons (Calls.Constant_str (k := kk) (pos := p4) ?_)
  refine Calls.spliced_nil ⟨hu, ?_⟩
  refine sup_call (X₃ _ _ hC) hx₃ hu (fun h₄ t1 k₄ hx₄ => ?_)
  -- self.found = found
  have X₄ : K.In h₄ := fun a o e => k₄ a o (fun z => by rw [z, hnx] at e; cases e) (X₃ a o e)
  have hLx : hp.objs.size ≠ x := Nat.ne_of_gt (Heap.lt_size hx)
  have hn₄ := hns
  obtain ⟨oL, es, ep, eL, rL⟩ := hn₄
  have hn₄ : h₄.Ns hp.objs.size _ := ⟨oL, es, ep, k₄ _ _ hLx (k₃ _ _ (k₂ _ _ eL)), rL⟩
  have big : hp.objs.size < h₄.objs.size := hn₄.lt
  show _root_.PySem.wpAt _ _ _ (execs _ _) _ _ _
  refine _root_.PySem.wpAt_of_wpAny (wpAny_execs_cons (plainObj_wpAny_Assign_Attribute ?_))
  refine wpAny_Name (wpAny_loadName_local rfl rfl hn₄ (v := v) (by first | rfl | with_unfolding_all rfl) ?_) (by decide)
  refine wpAny_Name (wpAny_loadName_local rfl rfl hn₄ (v := .ref x) (by first | rfl | with_unfolding_all rfl) ?_) (by decide)
  refine set_plain X₄ (ox := excO C t1) (od := none) ⟨hx₄, rfl, rfl, trivial⟩ T.sa ?_
  refine HandSPX.exc_osa X₄ hx₄ hcl (show refsVE (.ref C :: bm) = true from hbm) rfl T.noN (fun h₅ tk₅ dx k₅ dn dne hx₅ hn₅ => ?_)
  show wpAny _ _ (execs _ _) _ _ _
  exact wpAny_execs_nil (hq h₅ tk₅ dx t1 ⟨fun b o hb e => k₅ b o hb (k₄ b o hb (k₃ b o (k₂ b o (k₁ b o e)))), hx₅, Nat.le_trans (Nat.le_of_lt big) dn, dne, hn₅⟩)
/-- an error that was made: its own dict d holds the thing -/
structure OwnMade (h h' : Heap) (e C d : Addr) (v : Value) : Prop where
  keep : ∀ b o, h.get? b = some o → h'.get? b = some o
  new : h.objs.size ≤ e
  obj : ∃ oe vs, h'.get? e = some oe ∧ oe.cls = .ref C ∧ oe.dict = some d ∧ oe.data = .fields vs ∧ vs[1]? = some .none
  dbig : h.objs.size ≤ d
  dne : d ≠ e
  ns : h'.Ns1 d (fun y => if y = "found" then some v else none)
theorem one_size (v : Value) : [v].length ≤ sizeLine := by
  rw [sizeLine_eq]
  exact (by decide : 1 ≤ 16777216)
theorem err_made (T : ErrTxt prog K C fI qn msg) {v : Value} (X : K.In s.heap) (lim : s.heap.NoLimit) (gl : s.heap.Ns mainGlobals mg) (bl : s.heap.Ns builtinsNs mb)
    (bb : ∀ x : Str, x ≠ "__name__" → mb x = bootBuiltins x) (room : A.depth + 1 < recursionLimit)
    (hq : ∀ h' tk e d, OwnMade s.heap h' e C d v → R (.ok (.ret (.ref e))) { s with heap := h', toks := tk }) :
    codeAny (model prog w) A (.call (.ref C) ⟨[v], []⟩) R s := by
  obtain ⟨nm, q, N, bs, bm, sn, sub, ab, col, dd, k0, k1, k2, k3, k5, hC, hbm⟩ := T.cls
  obtain ⟨hp, g, dr, tk, os⟩ := s
  have k : ∀ b o, hp.get? b = some o → ((hp.push (kdv_tup [v])).push (excO C hp.objs.size)).get? b = some o := fun b o e => Heap.get?_push_of_some _ (Heap.get?_push_of_some _ e)
  have hget : ((hp.push (kdv_tup [v])).push (excO C hp.objs.size)).get? (hp.objs.size + 1) = some (excO C hp.objs.size) := by heap_get
  have hnx : K.lookup (hp.objs.size + 1) = none := by
    cases e : K.lookup (hp.objs.size + 1) with
    | none => rfl
    | some o =>
      have z : hp.get? (hp.objs.size + 1) = some o := X _ _ e
      exact absurd (Nat.lt_of_succ_lt (Heap.lt_size z)) (Nat.lt_irrefl _)
  refine HandSPX.call_own F.excBase_ValueError (fun X => refsVE_contains X bm hbm) (X _ _ hC) (looks_findIn X T.iC) (fun self => bind_fn X self T.tC) (one_size v) ?_
  refine err_init (s := ⟨(hp.push (kdv_tup [v])).push (excO C hp.objs.size), g, dr, tk, os⟩) T (X.keeps k) (lim.keeps k) (gl.keeps k) (bl.keeps k) bb hget hnx ?_ fun h' tk' dx t1 ⟨k', hx, dn, dne, hns⟩ => ?_
  · show A.depth + 1 < recursionLimit
    exact room
  · have old : ∀ b o, hp.get? b = some o → h'.get? b = some o := fun b o e => k' b o (Nat.ne_of_lt (Nat.lt_succ_of_lt (Heap.lt_size e))) (k b o e)
    have z : hp.objs.size + 1 + 1 ≤ dx := by
      first
        | (simpa only [Heap.size_push] using dn)
        | exact dn
        | (have q := dn; rw [Heap.size_push, Heap.size_push] at q; exact q)
    exact ⟨rfl, hq h' tk' (hp.objs.size + 1) dx ⟨old, Nat.le_succ _, ⟨_, _, hx, rfl, rfl, rfl, rfl⟩, Nat.le_trans (Nat.le_trans (Nat.le_succ _) (Nat.le_succ _)) z, dne, hns⟩⟩
end
end Ge
namespace Ge
open PySem PySem.Spec PyProof.Rows L2
theorem relO_f {v : V} {v' : Value} (r : RelV v v') (f : Str) : RelO (List.lookup f [(("found" : Str), v)]) (if f = "found" then some v' else none) := by
  by_cases hw : f = "found"
  · subst hw
    rw [if_pos rfl]
    have q : List.lookup ("found" : Str) [(("found" : Str), v)] = some v := by simp [List.lookup]
    rw [q]
    exact r
  · rw [if_neg hw]
    have qw : (f == ("found" : Str)) = false := by simpa using hw
    have q2 : List.lookup f [(("found" : Str), v)] = none := by simp [List.lookup, qw]
    rw [q2]
    trivial
section
variable {X : Cx} {C fI : Addr} {qn msg cn : Str}
/-- E(e) -/
def tMkE (C : Addr) (ta : TA) : L2.St → Hp → XK → Prop := fun σ H Q => ta σ H fun vs H1 => ∃ v, vs = [v] ∧ ∀ d, H1 d = none → Q (.ref C) (some d) (upd H1 d (.xd [(("found" : Str), v)]))
theorem pmk_err {a : Expr} {ta : TA} {p pos : Pos} {k : Nat} (T : ErrTxt X.prog X.K C fI qn msg) (gC : X.mg cn = some (.ref C)) (hr : Room k X.A) (ha : PA X [a] ta) (hg : Gl X cn)
    (hdb : (cn == ("__debug__" : Str)) = false := by decide)
    (he : starEach (a :: []) X.env = (false, eval a X.env) :: starEach [] X.env := by rfl) (hpl : (backTo pos (starEach [] X.env)).any (·.1) = false := by rfl) :
    PMk X (.Call (.Name cn p) [a] [] pos) (tMkE C ta) := by
  intro pins s σ H Q I h
  apply wpAny_Call_Name_kw
  apply ld_glob I hg gC (hd := hdb)
  refine PySem.W.callWith_K (h₀ := X.base) I.ok.mod.kin T.kC (thn (ha.run pos pins s σ H _ I h) ?_) he hpl
  rintro us s1 ⟨vs, H1, I1, r1, v, ev, q1⟩
  subst ev
  refine ⟨I1.kIn, ?_⟩
  cases r1 with
  | cons rv rn =>
    rename_i v' us'
    cases rn
    show wpAny _ _ (call (.ref C) [v']) _ _ _
    have hlim := I1.nolimit
    have hgl := I1.mod.glob.keeps I1.bk
    obtain ⟨mb, hbl0, hbb⟩ := I1.mod.blt
    have hbl := hbl0.keeps I1.bk
    obtain ⟨hp, g, dr, tk, os⟩ := s1
    refine wpAny_call (err_made T I1.kIn hlim hgl hbl hbb (by have := hr.dp; omega) fun h' tk' e d M => ?_)
    show MkP X pins σ Q (.ref e) ⟨h', g, dr, tk', os⟩
    obtain ⟨oe, fv, hoe, hc, hd, hdat, h1⟩ := M.obj
    have hns := M.ns
    obtain ⟨G', g1, g2⟩ := restrict h' fun b => decide (b ≠ e)
    have gk : ∀ b, b ≠ e → G'.get? b = h'.get? b := fun b hb => g1 b (decide_eq_true hb)
    have ge : G'.get? e = none := g2 e (by simp)
    have old : ∀ b o, hp.get? b = some o → G'.get? b = some o := fun b o q => (gk b (Nat.ne_of_lt (Nat.lt_of_lt_of_le (Heap.lt_size q) M.new))).trans (M.keep b o q)
    have ob : ObjOk X.prog X.w (upd H1 d (.xd [(("found" : Str), v)])) G' d (.xd [(("found" : Str), v)]) :=
      ⟨_, hns.at (fun o q => (gk d M.dne).trans q), fun f => relO_f rv f⟩
    have J : Inv X pins σ (upd H1 d (.xd [(("found" : Str), v)])) ⟨G', g, dr, tk', os⟩ := I1.laid (t' := tk') old M.dbig ob
    refine ⟨e, oe, fv, ⟨G', g, dr, tk', os⟩, _, .ref C, some d, rfl, J, fun b o q => ?_, ge, hoe, ⟨hc, hd⟩, hdat, h1, ?_, rfl, I1.bare, raises_own T.exC T.tyC, q1 d (I1.hok.fresh M.dbig)⟩
    · by_cases hb : b = e
      · have q' : G'.get? b = some o := q
        rw [hb, ge] at q'
        cases q'
      · exact (gk b hb).symm.trans q
    · rw [upd_ne (Ne.symm M.dne)]
      exact I1.hok.fresh M.new
/-- raise E(e) -/
def tRaiseE (C : Addr) (W : WX) (ta : TA) : TS := fun _ σ H => tMkE C ta σ H fun cls d H' => W cls d σ H'
theorem ps_raiseE {a : Expr} {ta : TA} {W : WX} {p pos pos2 : Pos} {k : Nat} (hc : X.calm = true) (T : ErrTxt X.prog X.K C fI qn msg) (gC : X.mg cn = some (.ref C)) (hr : Room k X.A) (tk : Takes X W) (ha : PA X [a] ta) (hg : Gl X cn)
    (hdb : (cn == ("__debug__" : Str)) = false := by decide)
    (he : starEach (a :: []) X.env = (false, eval a X.env) :: starEach [] X.env := by rfl) (hpl : (backTo pos (starEach [] X.env)).any (·.1) = false := by rfl) :
    PS X (.Raise (some (.Call (.Name cn p) [a] [] pos)) none pos2) (tRaiseE C W ta) := ps_raise hc tk (pmk_err T gC hr ha hg hdb he hpl)
/-- e.found, e the exception that the suite holds (at a; its class cls, its dict d) -/
def tFound (C : Addr) (a : Addr) (cls : Value) (d : Option Addr) (te : TE) : TE := fun σ H Q => te σ H fun x H1 => x = .ref a ∧ cls = .ref C ∧ ∃ (dd : Addr) (v : V), d = some dd ∧ H1 dd = some (.xd [(("found" : Str), v)]) ∧ Q v H1
theorem pe_found {a : Addr} {oe : Obj} {cls : Value} {d : Option Addr} {pn : List (Addr × Obj)} {e : Expr} {te : TE} {pos : Pos} (T : ErrTxt X.prog X.K C fI qn msg) (hz : Zc cls d oe) (hf : ∃ vs, oe.data = .fields vs) (he : PE (X.suite a ((a, oe) :: pn)) e te)
    (hb : attributeBase e "found" X.env (eval e X.env) = eval e X.env := by rfl) :
    PE (X.suite a ((a, oe) :: pn)) (.Attribute e "found" pos) (tFound C a cls d te) := by
  constructor
  intro pins s σ H Q I h
  refine attr_of hb (thn (he.run pins s σ H _ I h) ?_)
  rintro u s1 ⟨x, H1, I1, rx, ex, ec, dd, v, ed, ea, q⟩
  subst ex
  obtain rfl : u = Value.ref a := rx
  subst ec
  subst ed
  have ha := (I1.pin (a, oe) (List.mem_append_left _ List.mem_cons_self)).1
  obtain ⟨vs, hd⟩ := hf
  have hx : ObjOk X.prog X.w H1 s1.heap dd (.xd [(("found" : Str), v)]) := I1.hok dd _ ea
  obtain ⟨mA, hns, hr⟩ := hx
  obtain ⟨od, ho, hl⟩ := lookIn_ns hns
  have l : List.lookup ("found" : Str) [(("found" : Str), v)] = some v := by simp [List.lookup]
  obtain ⟨u, hu, ru⟩ := RelO.some_of (v := v) (o := mA "found") (by rw [← l]; exact hr "found")
  have J : PySem.W.InstAt s1.heap a oe C (some od) := by
    refine ⟨ha, hz.1, ?_, by rw [hz.2]; exact ho⟩
    unfold PySem.W.notCls
    rw [hd]
    all_goals rfl
  exact HandSPX.exc_get I1.kIn J T.ga T.gg T.exC (PySem.W.findObj_own T.hdC T.noN rfl (by rw [hl, hu])) (handed_of ru) ⟨v, H1, I1.tok _, ru, q⟩
/-- what a class of errors must say so that isinstance asks it -/
structure IsTxt (K : PySem.W.Frag) (C : Addr) : Prop where
  ha : PySem.W.findIn K (.ref C) "__class__" = some (some (.builtin "object.__class__"))
  hn : PySem.W.specialIn K (.builtin "object.__class__") "__get__" = some (some (.builtin "getset_descriptor.__get__"))
  ht : PySem.W.takesIn K (.builtin "object.__class__") = some true
  hm : PySem.W.mroIn K C (.type "object") = some true
/-- isinstance(e, c), e the exception that the suite holds, with its own dict -/
def rIsF (K : PySem.W.Frag) (C a : Addr) (cls : Value) (d : Option Addr) : List V → Hp → VK → Prop := fun xs H Q => ∃ (c : V) (cv : Value) (b : Bool) (dd : Addr) (v : V), xs = [.ref a, c] ∧ cls = .ref C ∧ d = some dd ∧
  H dd = some (.xd [(("found" : Str), v)]) ∧ ClsV c cv ∧ PySem.W.kitOne K (.ref C) cv = some b ∧ Q (.bl b) H
theorem call_isF {a : Addr} {oe : Obj} {cls : Value} {d : Option Addr} {pn : List (Addr × Obj)} (T : ErrTxt X.prog X.K C fI qn msg) (S : IsTxt X.K C) (hz : Zc cls d oe) (hf : ∃ vs, oe.data = .fields vs) :
    CallR (X.suite a ((a, oe) :: pn)) (.builtin "isinstance") (rIsF X.K C a cls d) := by
  intro pins s σ H xs us Q I r h
  obtain ⟨c, cv, b, dd, v, rfl, rfl, rfl, ea, hcv, e, q⟩ := h
  obtain ⟨u1, u2, rfl, r1, r2⟩ := vals2 r
  cases (show u1 = Value.ref a from r1)
  have e2 := hcv.eq r2
  subst e2
  have ha := (I.pin (a, oe) (List.mem_append_left _ List.mem_cons_self)).1
  obtain ⟨vs, hd⟩ := hf
  have hx : ObjOk X.prog X.w H s.heap dd (.xd [(("found" : Str), v)]) := I.hok dd _ ea
  obtain ⟨mA, hns, _⟩ := hx
  obtain ⟨od, ho, _⟩ := lookIn_ns hns
  have J : PySem.W.InstAt s.heap a oe C (some od) := by
    refine ⟨ha, hz.1, ?_, by rw [hz.2]; exact ho⟩
    unfold PySem.W.notCls
    rw [hd]
    all_goals rfl
  have hcl : (PySem.W.clsIn X.K C).isSome = true := by
    obtain ⟨cd, hc, _⟩ := PySem.W.any_some T.hdC
    rw [hc]
    rfl
  exact PySem.W.kia_one (PySem.W.kitx_exc hcl T.ga T.gg T.exC S.ha S.hn S.ht S.hm) I.kIn J e (fun z => nomatch z) fun tk => ⟨.bl b, H, I.kept (t' := tk) fun _ _ z => z, rfl, q⟩
end
end Ge
/-! An own error whose __init__ says super().__init__(a text), then keeps the one thing it is made of. -/
namespace Gc
open PySem PySem.W PySem.Calls PyProof.Rows PySem.HandSPX
def iA (p1 p2 : Pos) : Arguments := { posonlyargs := [], args := [{ arg := "self", annotation := none, pos := p1 }, { arg := "count", annotation := none, pos := p2 }], vararg := none, kwonlyargs := [], kw_defaults := [], kwarg := none, defaults := [] }
def iB (msg : Str) (kk : Nat) (p1 p2 p3 p4 p5 p6 q1 q2 q3 q4 : Pos) : List Stmt :=
  [.Expr (.Call (.Attribute (.Call (.Name "super" p1) [] [] p2) "__init__" p3) [.Constant (.str msg) kk p4] [] p5) p6,
   .Assign [.Attribute (.Name "self" q1) "count" q2] (.Name "count" q3) q4]
def iS : Scope := { kind := .function, names := [(PySem.Str.ofString "self", .local), (PySem.Str.ofString "count", .local), (PySem.Str.ofString "__class__", .free), (PySem.Str.ofString "super", .globalImplicit)], isGenerator := false, isCoroutine := false, more := [] }
/-- what the written part says of the class at C and of its __init__ at fI -/
structure ErrTxt (P : Program) (K : Frag) (C fI : Addr) (qn msg : Str) : Prop where
  cls : ∃ nm q N bs bm sn sub ab col dd k0 k1 k2 k3 k5, K.lookup C = some (excClassObj nm q C N bs bm true sn sub ab col dd k0 k1 k2 k3 k5 "ValueError.__new__") ∧ refsVE bm = true
  sa : findIn K (.ref C) "__setattr__" = some (some (.builtin "object.__setattr__"))
  ga : findIn K (.ref C) "__getattribute__" = some (some (.builtin "BaseException.__getattribute__"))
  gg : findIn K (.ref C) "__getattr__" = some none
  noN : findIn K (.ref C) "count" = some none
  iC : findIn K (.ref C) "__init__" = some (some (.ref fI))
  tC : typeIn K (.ref fI) = some (.type "function")
  kC : keepIn K (.ref C) = true
  exC : subIn K (.ref C) (.type "BaseException") = some true
  veC : subIn K (.ref C) (.type "ValueError") = some true
  tyC : typeIn K (.ref C) = some (.type "type")
  hdC : hasDictIn K C = true
  sub : mroIn K C (.ref C) = some true
  sup : ks_superIn K C C "__init__" = some (some (.builtin "ValueError.__init__"))
  op : nsIn K cStatics "thirdparty.any" = some none
  zs : nsIn K mainGlobals "super" = some none
  htop : (P.main.scope.names.lookup ("super" : Str)).isSome = false
  fn : ∃ (oc : Value) (od : Option Addr) (doc pm : Value) (an : Option Addr) (cda cc : Addr) (ct : Value) (osl : Array (Option Value)) (kk : Nat) (p1 p2 p3 p4 p5 p6 q1 q2 q3 q4 r1 r2 : Pos) (ccl cl : Value) (cdd cld : Option Addr) (vs : Array Value) (ccs csl : Array (Option Value)) (file : Str) (tf : Tok),
    K.lookup fI = some ⟨oc, od, .func (ksFn "__init__" qn (iA r1 r2) (iB msg kk p1 p2 p3 p4 p5 p6 q1 q2 q3 q4) iS .none .none doc pm an (.ref cda) ct cc), osl⟩ ∧ codeIn K (.ref cda) qn = true ∧
    K.lookup cda = some ⟨ccl, cdd, .fields vs, ccs⟩ ∧ vs[2]? = some (.str file tf) ∧ ((P.main.file : Str) == file) = true ∧
    K.lookup cc = some ⟨cl, cld, .cell (some (.ref C)), csl⟩ ∧ (p3.endLine == p5.line) = true
/-- what __init__ leaves of a fresh exception at x -/
structure InitEnd (h h' : Heap) (x C dx t1 : Addr) (v : Value) : Prop where
  keep : ∀ b o, b ≠ x → h.get? b = some o → h'.get? b = some o
  obj : h'.get? x = some { cls := .ref C, dict := some dx, data := .fields #[.ref t1, .none, .none, .none, .bool false, .none] }
  dbig : h.objs.size ≤ dx
  dne : dx ≠ x
  ns : h'.Ns1 dx (fun y => if y = "count" then some v else none)
theorem iS_nocell : ∀ y ∈ iS.names, y.2 ≠ .cell := by decide +kernel
theorem iS_loc (x v : Value) : ∀ y ∈ ([(PySem.Str.ofString "self", x), (PySem.Str.ofString "count", v)] : List (Str × Value)), iS.names.lookup y.1 = some .local := by
  intro y hy
  simp only [List.mem_cons, List.not_mem_nil, or_false] at hy
  rcases hy with rfl | rfl
  · exact (by decide +kernel : iS.names.lookup (PySem.Str.ofString "self") = some .local)
  · exact (by decide +kernel : iS.names.lookup (PySem.Str.ofString "count") = some .local)
/-- o.name(..) in a body that is known to run, the call's line told -/
theorem at_method {M : Model} {A : Around} {c : Code} {E : Value → Shared → Prop} {s : Shared} {env : Env} {o : Expr} {name : Str} {apos pos : Pos} {args : List Expr} {Q : Value → Shared → Prop}
    (hl : (apos.endLine == pos.line) = true) (hf : methodCallForm (args.length + ([] : List Keyword).length) (backTo pos (starEach args env)) (backToKw pos (keywordEach [] env)) = true)
    (h : _root_.PySem.wpAt M A c (attributeBase o name env (eval o env)) (fun ov s₁ => wpAny M A (getMethod ov name (do return (← importBound o env).getD true))
      (fun fx s₂ => wpAny M A (callWith pos fx.1 fx.2 (backTo pos (starEach args env)) (backToKw pos (keywordEach [] env))) Q E s₂) E s₁) E s) :
    _root_.PySem.wpAt M A c (eval (.Call (.Attribute o name apos) args [] pos) env) Q E s := by
  rw [arm_eval_Call]
  apply _root_.PySem.wpAt_bind
  apply _root_.PySem.wpAt_mono h
  · intro ov s₁ h₁
    apply _root_.PySem.wpAt_of_wpAny
    apply wpAny_bind
    apply wpAny_standAt
    have hp : methodCallPos true o env apos pos = pure pos := by
      unfold methodCallPos
      simp [hl]
    unfold methodCall
    rw [hf]
    apply wpAny_bind
    apply wpAny_holding
    apply wpAny_mono h₁
    · intro fx s₂ h₂
      exact wpAny_bind (wpAny_of_eq hp h₂)
    · intro _ _ z
      exact z
  · intro _ _ z
    exact z
section
variable {prog : Program} {w : World} {A : Around} {E : Value → Shared → Prop} {R : Result → Shared → Prop} {s : Shared} {K : Frag} {mg mb : Str → Option Value} {C fI : Addr} {qn msg : Str}
theorem sup_call {h : Heap} {g : Array GenState} {d : Drawn} {t : Nat} {os : OsState} {u e t0 : Addr} {one : Value} {Q : Value → Shared → Prop}
    {nm q : Str} {N : Addr} {bs bm sub : List Value} {sn : List Str} {ab : Bool} {col : Option Bool} {dd : Option Addr} {k0 k1 k2 k3 k5 : Option Value}
    (hC : h.get? C = some (excClassObj nm q C N bs bm true sn sub ab col dd k0 k1 k2 k3 k5 "ValueError.__new__")) (he : h.get? e = some (excO C t0)) (hu : h.get? u = some (kxs_mw "ValueError.__init__" e))
    (hq : ∀ h' t1, (∀ b o, b ≠ e → h.get? b = some o → h'.get? b = some o) → h'.get? e = some (excO C t1) → Q .none ⟨h', g, d, t, os⟩) :
    wpAny (model prog w) A (call (.ref u) [one]) Q E ⟨h, g, d, t, os⟩ := by
  refine wpAny_call (codeAny_of_tree (show wpAny _ (Around.in1 _) (callAny (.ref u) ⟨[one], []⟩) _ _ _ from ?_))
  have e1 : (Value.type "method-wrapper" == Value.type "method" || Value.type "method-wrapper" == Value.type "builtin_function_or_method" || Value.type "method-wrapper" == Value.type "method-wrapper") = true := by decide
  simp only [callAny]
  refine wpAny_bind (m := load u) (wpAny_load hu ?_)
  simp only [kxs_mw, e1, if_true]
  refine (KFB.if_so (by decide) (wpAny_bind (check_bound_init F.excBase_ValueError.toExcCallFacts hC he rfl ?_)))
  refine (wpAny_bind (wpAny_pure (wpAny_pure (And.intro (plainId_quiet F.excBase_ValueError.init.plain _) (codeAny_builtin F.excBase_ValueError.initEntry ?_)))))
  have lz : [one].length ≤ sizeLine := by
    rw [sizeLine_eq]
    exact (by decide : 1 ≤ 16777216)
  exact exc_init_tree (cls := .ref C) (t0 := t0) (dv := none) (c2 := .none) (c3 := .none) (b4 := .bool false) he lz (fun h₄ k₄ hx₄ _ => hq h₄ _ k₄ hx₄)
theorem err_init (T : ErrTxt prog K C fI qn msg) {x t0 : Addr} {v : Value} (X : K.In s.heap) (lim : s.heap.NoLimit) (gl : s.heap.Ns mainGlobals mg) (bl : s.heap.Ns builtinsNs mb)
    (bb : ∀ x : Str, x ≠ "__name__" → mb x = bootBuiltins x) (hx : s.heap.get? x = some (excO C t0)) (hnx : K.lookup x = none) (room : A.depth < recursionLimit)
    (hq : ∀ h' tk dx t1, InitEnd s.heap h' x C dx t1 v → R (.ok (.ret .none)) { s with heap := h', toks := tk }) :
    codeAny (model prog w) A (.call (.ref fI) ⟨[.ref x, v], []⟩) R s := by
  obtain ⟨oc, od, doc, pm, an, cda, cc, ct, osl, kk, p1, p2, p3, p4, p5, p6, q1, q2, q3, q4, r1, r2, ccl, cl, cdd, cld, vs, ccs, csl, file, tf, ho, hcd, hcode, hvs, hfile, hcell, hline⟩ := T.fn
  obtain ⟨nm, q, N, bs, bm, sn, sub, ab, col, dd, k0, k1, k2, k3, k5, hC, hbm⟩ := T.cls
  have hzs := mg_none_of X gl T.zs
  obtain ⟨hp, g, dr, tk, os⟩ := s
  refine ks_codeAny_call_defAt (binds := [("self", .ref x), ("count", v)]) room (X _ _ ho) rfl lim (codeRec_of X hcd) rfl (BindsTo.of_eq (by first | rfl | with_unfolding_all rfl)) iS_nocell (iS_loc _ _) (fun h₁ hns k₁ => ?_) rfl rfl rfl
  have X₁ : K.In h₁ := X.keeps k₁
  have hx₁ := k₁ _ _ hx
  refine ks_wpAt_execs_cons (ks_wpAt_Expr_any (at_method hline (by first | rfl | with_unfolding_all rfl) ?_))
  refine ks_wpAt_super_base rfl rfl (by decide) rfl (X₁ _ _ ho) rfl rfl rfl (X₁ _ _ hcode) rfl hvs hfile T.htop ?_
  refine ks_loadName_global rfl rfl (loadGlobal_builtin (gl.keeps k₁) hzs (bl.keeps k₁) ((bb _ (by decide +kernel)).trans (by decide +kernel : bootBuiltins "super" = some (.type "super"))) ⟨rfl, ?_⟩)
  refine wpAny_loadName_free rfl rfl rfl ⟨_, X₁ _ _ hcell, rfl⟩ ?_
  refine wpAny_loadName_local rfl rfl hns (v := .ref x) (by first | rfl | with_unfolding_all rfl) ?_
  refine ks_wpAny_isType_cls (X₁ _ _ hC) rfl ⟨rfl, ?_⟩
  refine ks_wpAny_call_super (X₁ _ _ hC) rfl hx₁ rfl (fun c e => nomatch e) (looks_mroIn X₁ T.sub) (fun h₂ e₂ k₂ => ?_)
  have X₂ : K.In h₂ := X₁.keeps k₂
  have hx₂ := k₂ _ _ hx₁
  have I₂ : InstAt h₂ x (excO C t0) C none := ⟨hx₂, rfl, rfl, trivial⟩
  have hcl : clsIn K C = some { name := nm, bases := bs, mro := .ref C :: bm, ns := N, qualname := q, hasDict := true, slotNames := sn, subclasses := sub, abstract := ab, collection := col, hasDel := false } := by
    unfold clsIn
    rw [hC]
    all_goals rfl
  have hm := T.sup
  unfold ks_superIn at hm
  rw [hcl] at hm
  have hI : Looks (model prog w) h₂ (isInstance (.ref x) (.type "ValueError")) true := I₂.type.andThen (looks_subIn X₂ T.veC)
  have hxC : x ≠ C := fun z => by
    rw [z, hC] at hnx
    cases hnx
  refine kxs_getMethod kxs_ValueError e₂ (looks_opaque X₂ T.op) (l₀ := .ref C :: bm) ?_ rfl X₂ hm hI hxC (by decide +kernel) ?_
  · exact fun A Q E s k q => wpAny_bind ((looks_clsIn X₂ hcl) A _ E s k (wpAny_pure q))
  have hu : (h₂.push (kxs_mw "ValueError.__init__" x)).get? h₂.objs.size = some (kxs_mw "ValueError.__init__" x) := Heap.get?_push_at rfl rfl
  have k₃ : ∀ b o, h₂.get? b = some o → (h₂.push (kxs_mw "ValueError.__init__" x)).get? b = some o := fun b o e => Heap.get?_push_of_some _ e
  have X₃ : K.In (h₂.push (kxs_mw "ValueError.__init__" x)) := X₂.keeps k₃
  have hx₃ := k₃ _ _ hx₂
  refine kxs_callWith (i := "ValueError.__init__") (x := x) (by rfl) (evalArgs_plain ?_)
  refine Calls.spliced_cons (Calls.Constant_str (k := kk) (pos := p4) ?_)
  refine Calls.spliced_nil ⟨hu, ?_⟩
  refine sup_call (X₃ _ _ hC) hx₃ hu (fun h₄ t1 k₄ hx₄ => ?_)
  -- self.found = found
  have X₄ : K.In h₄ := fun a o e => k₄ a o (fun z => by rw [z, hnx] at e; cases e) (X₃ a o e)
  have hLx : hp.objs.size ≠ x := Nat.ne_of_gt (Heap.lt_size hx)
  have hn₄ := hns
  obtain ⟨oL, es, ep, eL, rL⟩ := hn₄
  have hn₄ : h₄.Ns hp.objs.size _ := ⟨oL, es, ep, k₄ _ _ hLx (k₃ _ _ (k₂ _ _ eL)), rL⟩
  have big : hp.objs.size < h₄.objs.size := hn₄.lt
  show _root_.PySem.wpAt _ _ _ (execs _ _) _ _ _
  refine _root_.PySem.wpAt_of_wpAny (wpAny_execs_cons (plainObj_wpAny_Assign_Attribute ?_))
  refine wpAny_Name (wpAny_loadName_local rfl rfl hn₄ (v := v) (by first | rfl | with_unfolding_all rfl) ?_) (by decide)
  refine wpAny_Name (wpAny_loadName_local rfl rfl hn₄ (v := .ref x) (by first | rfl | with_unfolding_all rfl) ?_) (by decide)
  refine set_plain X₄ (ox := excO C t1) (od := none) ⟨hx₄, rfl, rfl, trivial⟩ T.sa ?_
  refine HandSPX.exc_osa X₄ hx₄ hcl (show refsVE (.ref C :: bm) = true from hbm) rfl T.noN (fun h₅ tk₅ dx k₅ dn dne hx₅ hn₅ => ?_)
  show wpAny _ _ (execs _ _) _ _ _
  exact wpAny_execs_nil (hq h₅ tk₅ dx t1 ⟨fun b o hb e => k₅ b o hb (k₄ b o hb (k₃ b o (k₂ b o (k₁ b o e)))), hx₅, Nat.le_trans (Nat.le_of_lt big) dn, dne, hn₅⟩)
/-- an error that was made: its own dict d holds the thing -/
structure OwnMade (h h' : Heap) (e C d : Addr) (v : Value) : Prop where
  keep : ∀ b o, h.get? b = some o → h'.get? b = some o
  new : h.objs.size ≤ e
  obj : ∃ oe vs, h'.get? e = some oe ∧ oe.cls = .ref C ∧ oe.dict = some d ∧ oe.data = .fields vs ∧ vs[1]? = some .none
  dbig : h.objs.size ≤ d
  dne : d ≠ e
  ns : h'.Ns1 d (fun y => if y = "count" then some v else none)
theorem one_size (v : Value) : [v].length ≤ sizeLine := by
  rw [sizeLine_eq]
  exact (by decide : 1 ≤ 16777216)
theorem err_made (T : ErrTxt prog K C fI qn msg) {v : Value} (X : K.In s.heap) (lim : s.heap.NoLimit) (gl : s.heap.Ns mainGlobals mg) (bl : s.heap.Ns builtinsNs mb)
    (bb : ∀ x : Str, x ≠ "__name__" → mb x = bootBuiltins x) (room : A.depth + 1 < recursionLimit)
    (hq : ∀ h' tk e d, OwnMade s.heap h' e C d v → R (.ok (.ret (.ref e))) { s with heap := h', toks := tk }) :
    codeAny (model prog w) A (.call (.ref C) ⟨[v], []⟩) R s := by
  obtain ⟨nm, q, N, bs, bm, sn, sub, ab, col, dd, k0, k1, k2, k3, k5, hC, hbm⟩ := T.cls
  obtain ⟨hp, g, dr, tk, os⟩ := s
  have k : ∀ b o, hp.get? b = some o → ((hp.push (kdv_tup [v])).push (excO C hp.objs.size)).get? b = some o := fun b o e => Heap.get?_push_of_some _ (Heap.get?_push_of_some _ e)
  have hget : ((hp.push (kdv_tup [v])).push (excO C hp.objs.size)).get? (hp.objs.size + 1) = some (excO C hp.objs.size) := by heap_get
  have hnx : K.lookup (hp.objs.size + 1) = none := by
    cases e : K.lookup (hp.objs.size + 1) with
    | none => rfl
    | some o =>
      have z : hp.get? (hp.objs.size + 1) = some o := X _ _ e
      exact absurd (Nat.lt_of_succ_lt (Heap.lt_size z)) (Nat.lt_irrefl _)
  refine HandSPX.call_own F.excBase_ValueError (fun X => refsVE_contains X bm hbm) (X _ _ hC) (looks_findIn X T.iC) (fun self => bind_fn X self T.tC) (one_size v) ?_
  refine err_init (s := ⟨(hp.push (kdv_tup [v])).push (excO C hp.objs.size), g, dr, tk, os⟩) T (X.keeps k) (lim.keeps k) (gl.keeps k) (bl.keeps k) bb hget hnx ?_ fun h' tk' dx t1 ⟨k', hx, dn, dne, hns⟩ => ?_
  · show A.depth + 1 < recursionLimit
    exact room
  · have old : ∀ b o, hp.get? b = some o → h'.get? b = some o := fun b o e => k' b o (Nat.ne_of_lt (Nat.lt_succ_of_lt (Heap.lt_size e))) (k b o e)
    have z : hp.objs.size + 1 + 1 ≤ dx := by
      first
        | (simpa only [Heap.size_push] using dn)
        | exact dn
        | (have q := dn; rw [Heap.size_push, Heap.size_push] at q; exact q)
    exact ⟨rfl, hq h' tk' (hp.objs.size + 1) dx ⟨old, Nat.le_succ _, ⟨_, _, hx, rfl, rfl, rfl, rfl⟩, Nat.le_trans (Nat.le_trans (Nat.le_succ _) (Nat.le_succ _)) z, dne, hns⟩⟩
end
end Gc
namespace Gc
open PySem PySem.Spec PyProof.Rows L2
theorem relO_f {v : V} {v' : Value} (r : RelV v v') (f : Str) : RelO (List.lookup f [(("count" : Str), v)]) (if f = "count" then some v' else none) := by
  by_cases hw : f = "count"
  · subst hw
    rw [if_pos rfl]
    have q : List.lookup ("count" : Str) [(("count" : Str), v)] = some v := by simp [List.lookup]
    rw [q]
    exact r
  · rw [if_neg hw]
    have qw : (f == ("count" : Str)) = false := by simpa using hw
    have q2 : List.lookup f [(("count" : Str), v)] = none := by simp [List.lookup, qw]
    rw [q2]
    trivial
section
variable {X : Cx} {C fI : Addr} {qn msg cn : Str}
/-- E(e) -/
def tMkE (C : Addr) (ta : TA) : L2.St → Hp → XK → Prop := fun σ H Q => ta σ H fun vs H1 => ∃ v, vs = [v] ∧ ∀ d, H1 d = none → Q (.ref C) (some d) (upd H1 d (.xd [(("count" : Str), v)]))
theorem pmk_err {a : Expr} {ta : TA} {p pos : Pos} {k : Nat} (T : ErrTxt X.prog X.K C fI qn msg) (gC : X.mg cn = some (.ref C)) (hr : Room k X.A) (ha : PA X [a] ta) (hg : Gl X cn)
    (hdb : (cn == ("__debug__" : Str)) = false := by decide)
    (he : starEach (a :: []) X.env = (false, eval a X.env) :: starEach [] X.env := by rfl) (hpl : (backTo pos (starEach [] X.env)).any (·.1) = false := by rfl) :
    PMk X (.Call (.Name cn p) [a] [] pos) (tMkE C ta) := by
  intro pins s σ H Q I h
  apply wpAny_Call_Name_kw
  apply ld_glob I hg gC (hd := hdb)
  refine PySem.W.callWith_K (h₀ := X.base) I.ok.mod.kin T.kC (thn (ha.run pos pins s σ H _ I h) ?_) he hpl
  rintro us s1 ⟨vs, H1, I1, r1, v, ev, q1⟩
  subst ev
  refine ⟨I1.kIn, ?_⟩
  cases r1 with
  | cons rv rn =>
    rename_i v' us'
    cases rn
    show wpAny _ _ (call (.ref C) [v']) _ _ _
    have hlim := I1.nolimit
    have hgl := I1.mod.glob.keeps I1.bk
    obtain ⟨mb, hbl0, hbb⟩ := I1.mod.blt
    have hbl := hbl0.keeps I1.bk
    obtain ⟨hp, g, dr, tk, os⟩ := s1
    refine wpAny_call (err_made T I1.kIn hlim hgl hbl hbb (by have := hr.dp; omega) fun h' tk' e d M => ?_)
    show MkP X pins σ Q (.ref e) ⟨h', g, dr, tk', os⟩
    obtain ⟨oe, fv, hoe, hc, hd, hdat, h1⟩ := M.obj
    have hns := M.ns
    obtain ⟨G', g1, g2⟩ := restrict h' fun b => decide (b ≠ e)
    have gk : ∀ b, b ≠ e → G'.get? b = h'.get? b := fun b hb => g1 b (decide_eq_true hb)
    have ge : G'.get? e = none := g2 e (by simp)
    have old : ∀ b o, hp.get? b = some o → G'.get? b = some o := fun b o q => (gk b (Nat.ne_of_lt (Nat.lt_of_lt_of_le (Heap.lt_size q) M.new))).trans (M.keep b o q)
    have ob : ObjOk X.prog X.w (upd H1 d (.xd [(("count" : Str), v)])) G' d (.xd [(("count" : Str), v)]) :=
      ⟨_, hns.at (fun o q => (gk d M.dne).trans q), fun f => relO_f rv f⟩
    have J : Inv X pins σ (upd H1 d (.xd [(("count" : Str), v)])) ⟨G', g, dr, tk', os⟩ := I1.laid (t' := tk') old M.dbig ob
    refine ⟨e, oe, fv, ⟨G', g, dr, tk', os⟩, _, .ref C, some d, rfl, J, fun b o q => ?_, ge, hoe, ⟨hc, hd⟩, hdat, h1, ?_, rfl, I1.bare, raises_own T.exC T.tyC, q1 d (I1.hok.fresh M.dbig)⟩
    · by_cases hb : b = e
      · have q' : G'.get? b = some o := q
        rw [hb, ge] at q'
        cases q'
      · exact (gk b hb).symm.trans q
    · rw [upd_ne (Ne.symm M.dne)]
      exact I1.hok.fresh M.new
/-- raise E(e) -/
def tRaiseE (C : Addr) (W : WX) (ta : TA) : TS := fun _ σ H => tMkE C ta σ H fun cls d H' => W cls d σ H'
theorem ps_raiseE {a : Expr} {ta : TA} {W : WX} {p pos pos2 : Pos} {k : Nat} (hc : X.calm = true) (T : ErrTxt X.prog X.K C fI qn msg) (gC : X.mg cn = some (.ref C)) (hr : Room k X.A) (tk : Takes X W) (ha : PA X [a] ta) (hg : Gl X cn)
    (hdb : (cn == ("__debug__" : Str)) = false := by decide)
    (he : starEach (a :: []) X.env = (false, eval a X.env) :: starEach [] X.env := by rfl) (hpl : (backTo pos (starEach [] X.env)).any (·.1) = false := by rfl) :
    PS X (.Raise (some (.Call (.Name cn p) [a] [] pos)) none pos2) (tRaiseE C W ta) := ps_raise hc tk (pmk_err T gC hr ha hg hdb he hpl)
/-- e.found, e the exception that the suite holds (at a; its class cls, its dict d) -/
def tFound (C : Addr) (a : Addr) (cls : Value) (d : Option Addr) (te : TE) : TE := fun σ H Q => te σ H fun x H1 => x = .ref a ∧ cls = .ref C ∧ ∃ (dd : Addr) (v : V), d = some dd ∧ H1 dd = some (.xd [(("count" : Str), v)]) ∧ Q v H1
theorem pe_found {a : Addr} {oe : Obj} {cls : Value} {d : Option Addr} {pn : List (Addr × Obj)} {e : Expr} {te : TE} {pos : Pos} (T : ErrTxt X.prog X.K C fI qn msg) (hz : Zc cls d oe) (hf : ∃ vs, oe.data = .fields vs) (he : PE (X.suite a ((a, oe) :: pn)) e te)
    (hb : attributeBase e "count" X.env (eval e X.env) = eval e X.env := by rfl) :
    PE (X.suite a ((a, oe) :: pn)) (.Attribute e "count" pos) (tFound C a cls d te) := by
  constructor
  intro pins s σ H Q I h
  refine attr_of hb (thn (he.run pins s σ H _ I h) ?_)
  rintro u s1 ⟨x, H1, I1, rx, ex, ec, dd, v, ed, ea, q⟩
  subst ex
  obtain rfl : u = Value.ref a := rx
  subst ec
  subst ed
  have ha := (I1.pin (a, oe) (List.mem_append_left _ List.mem_cons_self)).1
  obtain ⟨vs, hd⟩ := hf
  have hx : ObjOk X.prog X.w H1 s1.heap dd (.xd [(("count" : Str), v)]) := I1.hok dd _ ea
  obtain ⟨mA, hns, hr⟩ := hx
  obtain ⟨od, ho, hl⟩ := lookIn_ns hns
  have l : List.lookup ("count" : Str) [(("count" : Str), v)] = some v := by simp [List.lookup]
  obtain ⟨u, hu, ru⟩ := RelO.some_of (v := v) (o := mA "count") (by rw [← l]; exact hr "count")
  have J : PySem.W.InstAt s1.heap a oe C (some od) := by
    refine ⟨ha, hz.1, ?_, by rw [hz.2]; exact ho⟩
    unfold PySem.W.notCls
    rw [hd]
    all_goals rfl
  exact HandSPX.exc_get I1.kIn J T.ga T.gg T.exC (PySem.W.findObj_own T.hdC T.noN rfl (by rw [hl, hu])) (handed_of ru) ⟨v, H1, I1.tok _, ru, q⟩
/-- what a class of errors must say so that isinstance asks it -/
structure IsTxt (K : PySem.W.Frag) (C : Addr) : Prop where
  ha : PySem.W.findIn K (.ref C) "__class__" = some (some (.builtin "object.__class__"))
  hn : PySem.W.specialIn K (.builtin "object.__class__") "__get__" = some (some (.builtin "getset_descriptor.__get__"))
  ht : PySem.W.takesIn K (.builtin "object.__class__") = some true
  hm : PySem.W.mroIn K C (.type "object") = some true
/-- isinstance(e, c), e the exception that the suite holds, with its own dict -/
def rIsF (K : PySem.W.Frag) (C a : Addr) (cls : Value) (d : Option Addr) : List V → Hp → VK → Prop := fun xs H Q => ∃ (c : V) (cv : Value) (b : Bool) (dd : Addr) (v : V), xs = [.ref a, c] ∧ cls = .ref C ∧ d = some dd ∧
  H dd = some (.xd [(("count" : Str), v)]) ∧ ClsV c cv ∧ PySem.W.kitOne K (.ref C) cv = some b ∧ Q (.bl b) H
theorem call_isF {a : Addr} {oe : Obj} {cls : Value} {d : Option Addr} {pn : List (Addr × Obj)} (T : ErrTxt X.prog X.K C fI qn msg) (S : IsTxt X.K C) (hz : Zc cls d oe) (hf : ∃ vs, oe.data = .fields vs) :
    CallR (X.suite a ((a, oe) :: pn)) (.builtin "isinstance") (rIsF X.K C a cls d) := by
  intro pins s σ H xs us Q I r h
  obtain ⟨c, cv, b, dd, v, rfl, rfl, rfl, ea, hcv, e, q⟩ := h
  obtain ⟨u1, u2, rfl, r1, r2⟩ := vals2 r
  cases (show u1 = Value.ref a from r1)
  have e2 := hcv.eq r2
  subst e2
  have ha := (I.pin (a, oe) (List.mem_append_left _ List.mem_cons_self)).1
  obtain ⟨vs, hd⟩ := hf
  have hx : ObjOk X.prog X.w H s.heap dd (.xd [(("count" : Str), v)]) := I.hok dd _ ea
  obtain ⟨mA, hns, _⟩ := hx
  obtain ⟨od, ho, _⟩ := lookIn_ns hns
  have J : PySem.W.InstAt s.heap a oe C (some od) := by
    refine ⟨ha, hz.1, ?_, by rw [hz.2]; exact ho⟩
    unfold PySem.W.notCls
    rw [hd]
    all_goals rfl
  have hcl : (PySem.W.clsIn X.K C).isSome = true := by
    obtain ⟨cd, hc, _⟩ := PySem.W.any_some T.hdC
    rw [hc]
    rfl
  exact PySem.W.kia_one (PySem.W.kitx_exc hcl T.ga T.gg T.exC S.ha S.hn S.ht S.hm) I.kIn J e (fun z => nomatch z) fun tk => ⟨.bl b, H, I.kept (t' := tk) fun _ _ z => z, rfl, q⟩
end
end Gc
/-! Defs that raise, their promise kept where no repr is under way. -/
namespace Gd
open PySem PySem.Spec PyProof.Rows L2
structure CalX (P : Program) (w : World) (K : PySem.W.Frag) (mg : Str → Option Value) (base : Heap) (k : Nat) (x : Str) (sp : Sp) : Prop where
  ex : ∃ (f : Addr) (fd : FuncData) (ps : List Str), FnG P w K mg base (L2.CX P w) k f fd ps sp ∧ mg x = some (.ref f) ∧
    PySem.W.keepIn K (.ref f) = true ∧ Binds K fd ps []
section
variable {P : Program} {w : World} {K : PySem.W.Frag} {mg : Str → Option Value} {base : Heap}
theorem okGX {x qual : Str} {st : Stmt} {f : Addr} {fd : FuncData} {N ps : List Str} {k : Nat} {sp : Sp}
    (F : Fun K x qual st f fd) (S : FnScope N ps (defScope st))
    (ar : ∀ vs H Q E, sp vs H Q E → vs.length = ps.length)
    (bd : ∀ (cdv : Value) (A : Around) (outer : List Env) (s : Shared) (H : Hp) (vs : List V) (Q : VK) (E : XK),
      A.guards = some [] → Room k (A.deeper (envOfC qual (defScope st) s.heap.objs.size f cdv)) → sp vs H Q E →
      ∃ t, PSs (cxOf (L2.CX P w) P w K mg base N qual (defScope st) f cdv A outer s H E) (defBody st) t ∧
        t { nx := fun _ H' => Q .non H', rt := Q } (start N vs) H) :
    FnG P w K mg base (L2.CX P w) (k + 1) f fd ps sp := by
  obtain ⟨oc, od, kV, doc, pm, an, cdv, ct, osl, rfl, lk, cin⟩ := F.ex
  exact fnG_of lk cin S ar fun A outer s H vs Q E hG room prem => bd cdv A outer s H vs Q E hG room prem
theorem DefAt.calX {x : Str} {st : Stmt} {N ps : List Str} {k : Nat} {sp : Sp} (D : DefAt K mg x st ps) (S : FnScope N ps (defScope st))
    (ar : ∀ vs H Q E, sp vs H Q E → vs.length = ps.length)
    (bd : ∀ (f : Addr) (cdv : Value) (A : Around) (outer : List Env) (s : Shared) (H : Hp) (vs : List V) (Q : VK) (E : XK),
      A.guards = some [] → Room k (A.deeper (envOfC x (defScope st) s.heap.objs.size f cdv)) → sp vs H Q E →
      ∃ t, PSs (cxOf (L2.CX P w) P w K mg base N x (defScope st) f cdv A outer s H E) (defBody st) t ∧
        t { nx := fun _ H' => Q .non H', rt := Q } (start N vs) H) : CalX P w K mg base (k + 1) x sp := by
  obtain ⟨f, fd, F, m, b⟩ := D.ex
  exact ⟨f, fd, ps, okGX F S ar (bd f), m, F.kp, b⟩
end
section
variable {X : Cx} {k : Nat} {sp : Sp} {x : Str} {p pos : Pos} {e : Expr} {es : List Expr} {t : TA} {E : L2.St → XK}
theorem enterX {CX : CXT} {f : Addr} {fd : FuncData} {ps : List Str} {pins : List (Addr × Obj)} {σ : L2.St} {H : Hp} {s : Shared} {Q : VK} {us : List Value} {vs : List V} (F : FnG X.prog X.w X.K X.mg X.base CX k f fd ps sp) (hG : X.A.guards = some []) (hr : Room k X.A) (hb : Binds X.K fd ps []) (hx : PassesAt CX X σ (E σ))
    (I : Inv X pins σ H s) (r : Vals vs us) (h : sp vs H Q (E σ)) : wpAny (model X.prog X.w) X.A (call (.ref f) us) (EP X pins σ Q) X.xe s := by
  have hl : us.length = ps.length := r.length ▸ F.arity _ _ _ _ h
  have b := hb s us I.kIn (by rw [List.append_nil]; exact hl)
  rw [List.append_nil] at b
  apply wpAny_call
  apply codeAny_mono (F.go X.A X.stack s H ⟨us, []⟩ us vs Q (E σ) hG hr I.env0 b r h)
  intro r s' hq
  match r, hq with
  | .error e, hq => exact hx pins H s e s' I hq
  | .ok (.ret u), hq => exact I.after hq
  | .ok .next, hq => exact hq.elim
  | .ok .brk, hq => exact hq.elim
  | .ok .cont, hq => exact hq.elim
/-- f(e, ..) of a def that may raise, its promise kept where no repr is under way -/
theorem pe_gx {W : WX} (c : CalX X.prog X.w X.K X.mg X.base k x sp) (hG : X.A.guards = some []) (hr : Room k X.A) (hg : Gl X x) (tk : Takes X W)
    (ha : PA X (e :: es) t) (hdb : (x == ("__debug__" : Str)) = false := by decide)
    (he : starEach (e :: es) X.env = (false, eval e X.env) :: starEach es X.env := by rfl)
    (hpl : (backTo pos (starEach es X.env)).any (·.1) = false := by rfl) :
    PE X (.Call (.Name x p) (e :: es) [] pos) (tCallS sp (WE W) t) := by
  obtain ⟨f, fd, ps, F, m, kp, b⟩ := c.ex
  constructor
  intro pins s σ H Q J prem
  have arg := ha.run pos pins s σ H _ J prem
  apply wpAny_Call_Name_kw
  apply ld_glob J hg m (hd := hdb)
  apply PySem.W.callWith_K (h₀ := X.base) J.ok.mod.kin kp (he := he) (hplain := hpl)
  apply thn arg
  rintro us s1 ⟨vs, H1, J1, rel, q⟩
  exact ⟨J1.kIn, enterX (E := WE W) F hG hr b (passAt tk σ) J1 rel q⟩
/-- the same, where it raises nothing -/
theorem pe_gN (c : CalX X.prog X.w X.K X.mg X.base k x sp) (hG : X.A.guards = some []) (hr : Room k X.A) (hg : Gl X x)
    (ha : PA X (e :: es) t) (hdb : (x == ("__debug__" : Str)) = false := by decide)
    (he : starEach (e :: es) X.env = (false, eval e X.env) :: starEach es X.env := by rfl)
    (hpl : (backTo pos (starEach es X.env)).any (·.1) = false := by rfl) :
    PE X (.Call (.Name x p) (e :: es) [] pos) (tCall sp [] E0 t) := by
  obtain ⟨f, fd, ps, F, m, kp, b⟩ := c.ex
  exact pe_callG F hG hr hg m kp b .nil passL ha hdb he hpl
end
end Gd
/-! A method whose body begins with a call of super().m(..), an own class's, the method that it finds a def that keeps its promise. -/
namespace Gs
open PySem PySem.Spec PyProof.Rows L2 Gd NdefX
open PySem.Calls
open PySem.W (Frag ksFn ks_superIn ks_loadName_global looks_mroIn looks_opaque looks_clsIn clsIn)
/-- what the written part says of the def F at f, of class D, and of super().m in it, g above D as seen from C -/
structure SupTxt (P : Program) (K : Frag) (C D f g cc : Addr) (F : NF) (m : Str) : Prop where
  fn : ∃ (oc : Value) (od : Option Addr) (doc pm : Value) (an : Option Addr) (ct : Value) (osl : Array (Option Value)),
    K.lookup f = some ⟨oc, od, .func (ksFn F.name F.qual F.params F.body F.scope .none .none doc pm an (.ref F.c) ct cc), osl⟩
  cl : F.cl = [(("__class__" : Str), cc)]
  code : PySem.W.codeIn K (.ref F.c) F.qual = true
  cod : ∃ (ccl : Value) (cdd : Option Addr) (vs : Array Value) (ccs : Array (Option Value)) (file : Str) (tf : Tok),
    K.lookup F.c = some ⟨ccl, cdd, .fields vs, ccs⟩ ∧ vs[2]? = some (.str file tf) ∧ ((P.main.file : Str) == file) = true
  cell : ∃ (cv : Value) (cd : Option Addr) (csl : Array (Option Value)), K.lookup cc = some ⟨cv, cd, .cell (some (.ref D)), csl⟩
  isD : ∃ cd, clsIn K D = some cd
  sub : PySem.W.mroIn K C (.ref D) = some true
  sup : ks_superIn K C D m = some (some (.ref g))
  ty : PySem.W.typeIn K (.ref g) = some (.type "function")
  fg : PySem.W.fnIn K g = true
  op : PySem.W.nsIn K cStatics "thirdparty.any" = some none
  zs : PySem.W.nsIn K mainGlobals "super" = some none
  htop : (P.main.scope.names.lookup ("super" : Str)).isSome = false
  hm : (m == ("__class__" : Str)) = false
  hks : F.scope.names.lookup ("super" : Str) = some .globalImplicit
  hkc : F.scope.names.lookup ("__class__" : Str) = some .free
  hself : F.scope.names.lookup ("self" : Str) = some .local
  arg : ∃ ar, (F.params.posonlyargs ++ F.params.args).head? = some ar ∧ ar.arg = "self"
section
variable {CX : CXT} {P : Program} {w : World} {K : Frag} {mg : Str → Option Value} {base : Heap} {N : List Str} {F : NF} {f g C D cc : Addr} {A : Around} {outer : List Env} {s0 : Shared} {H0 : Hp} {E0 : XK} {m : Str}
theorem at_super {body : List Stmt} {p0 p1 apos pos : Pos} {args : List Expr} {s : Shared} {pins : List (Addr × Obj)} {σ : L2.St} {H : Hp} {x dx : Addr} {fs : List (Str × V)} {Q : Value → Shared → Prop}
    (T : SupTxt P K C D f g cc F m) (hline : (apos.endLine == pos.line) = true)
    (hform : methodCallForm (args.length + ([] : List Keyword).length) (backTo pos (starEach args (envF F f s0.heap.objs.size))) (backToKw pos (keywordEach [] (envF F f s0.heap.objs.size))) = true)
    (I : Inv (ncx CX P w K mg base N F f A outer s0 H0 E0) pins σ H s) (hN : N[0]? = some ("self" : Str)) (hσ : σ[0]? = some (some (.ref x))) (hx : H x = some (.ins C dx fs))
    (h : ∀ (q : Addr) (s' : Shared), Inv (ncx CX P w K mg base N F f A outer s0 H0 E0) (pins ++ [(q, PySem.W.methodObj (.ref g) (.ref x))]) σ H s' →
      wpAny (model P w) (ncx CX P w K mg base N F f A outer s0 H0 E0).A (callWith pos (.ref q) [] (backTo pos (starEach args (envF F f s0.heap.objs.size))) (backToKw pos (keywordEach [] (envF F f s0.heap.objs.size)))) Q (ncx CX P w K mg base N F f A outer s0 H0 E0).xe s') :
    _root_.PySem.wpAt (model P w) (ncx CX P w K mg base N F f A outer s0 H0 E0).A (.func body (envF F f s0.heap.objs.size))
      (eval (.Call (.Attribute (.Call (.Name "super" p0) [] [] p1) m apos) args [] pos) (envF F f s0.heap.objs.size)) Q (ncx CX P w K mg base N F f A outer s0 H0 E0).xe s := by
  obtain ⟨oc, od, doc, pm, an, ct, osl, hf⟩ := T.fn
  obtain ⟨ccl, cdd, vs, ccs, file, tf, hcode, hvs, hfile⟩ := T.cod
  obtain ⟨cv, cd0, csl, hcell⟩ := T.cell
  obtain ⟨ar, harg, hself⟩ := T.arg
  obtain ⟨cdD, hD⟩ := T.isD
  have X := I.kIn
  obtain ⟨mb, hbl0, hbb⟩ := I.mod.blt
  have hgl := I.mod.glob.keeps I.bk
  have hbl := hbl0.keeps I.bk
  have hzs := PySem.W.mg_none_of I.mod.kin I.mod.glob T.zs
  obtain ⟨mA, O, _⟩ := ins_get I.hok hx
  obtain ⟨ml, hns, look⟩ := I.loc
  refine Ge.at_method hline hform ?_
  refine ks_wpAt_super_base T.hks T.hkc T.hm rfl (X _ _ hf) rfl harg rfl (X _ _ hcode) rfl hvs hfile T.htop ?_
  refine ks_loadName_global I.ok.kind T.hks (loadGlobal_builtin hgl hzs hbl ((hbb _ (by decide +kernel)).trans (by decide +kernel : bootBuiltins "super" = some (.type "super"))) ⟨rfl, ?_⟩)
  refine wpAny_loadName_free I.ok.kind T.hkc (by show F.cl.lookup _ = _; rw [T.cl]; rfl) ⟨_, X _ _ hcell, rfl⟩ ?_
  have eS : (ncx CX P w K mg base N F f A outer s0 H0 E0).env.scope.names.lookup ("self" : Str) = some .local := T.hself
  obtain ⟨u, ru, lk⟩ := look 0 ("self" : Str) (.ref x) hN hσ (.inl eS)
  have hml : ml ("self" : Str) = some (.ref x) := by
    rcases lk with ⟨_, z⟩ | ⟨z, _⟩
    · rw [z]
      exact congrArg some ru
    · rcases z with z | z
      · have : some NameKind.local = some NameKind.cell := eS.symm.trans z
        cases this
      · have : some NameKind.local = some NameKind.free := eS.symm.trans z
        cases this
  refine wpAny_loadName_local I.ok.kind (by rw [hself]; exact T.hself) hns (v := .ref x) (by rw [hself]; exact hml) ?_
  obtain ⟨oD, hD1, hD2⟩ : ∃ oD, s.heap.get? D = some oD ∧ oD.data = .cls cdD := by
    unfold clsIn at hD
    split at hD
    · rename_i c d cd' sl ho
      cases hD
      exact ⟨_, X _ _ ho, rfl⟩
    · cases hD
  refine ks_wpAny_isType_cls hD1 hD2 ⟨rfl, ?_⟩
  obtain ⟨hp, gs, dr, tk, os⟩ := s
  refine ks_wpAny_call_super hD1 hD2 O.obj rfl (fun c e => nomatch e) (looks_mroIn X T.sub) (fun h₂ e₂ k₂ => ?_)
  have J2 : Inv (ncx CX P w K mg base N F f A outer s0 H0 E0) pins σ H ⟨h₂, gs, dr, tk, os⟩ := I.kept (t' := tk) k₂
  have X₂ := J2.kIn
  have hsup := T.sup
  cases hc : clsIn K C with
  | none =>
    unfold ks_superIn at hsup
    rw [hc] at hsup
    cases hsup
  | some cd =>
    unfold ks_superIn at hsup
    rw [hc] at hsup
    obtain ⟨of, hof, hofc⟩ : ∃ of, h₂.get? g = some of ∧ of.cls = .type "function" := by
      have ht := T.ty
      have ht' : (K.lookup g).map (·.cls) = some (.type "function") := ht
      cases z : K.lookup g with
      | none =>
        rw [z] at ht'
        cases ht'
      | some of =>
        rw [z] at ht'
        exact ⟨of, X₂ _ _ z, Option.some.inj ht'⟩
    have hxC : x ≠ C := fun e => by
      unfold clsIn at hc
      cases z : K.lookup C with
      | none =>
        rw [z] at hc
        cases hc
      | some oC =>
        have hb := I.mod.kin _ _ z
        have := (I.bs C oC hb).2
        rw [← e, hx] at this
        cases this
    refine ks_wpAny_getMethod_super e₂ (looks_opaque X₂ T.op) (l₀ := cd.mro) ?_ rfl X₂ hsup hof hofc hxC T.hm ?_
    · exact fun A Q E s k q => wpAny_bind ((looks_clsIn X₂ hc) A _ E s k (wpAny_pure q))
    · have k₃ : ∀ b o, h₂.get? b = some o → (h₂.push (PySem.W.methodObj (.ref g) (.ref x))).get? b = some o := fun b o e => Heap.get?_push_of_some _ e
      have J3 : Inv (ncx CX P w K mg base N F f A outer s0 H0 E0) pins σ H ⟨h₂.push (PySem.W.methodObj (.ref g) (.ref x)), gs, dr, tk + 1, os⟩ := J2.kept (t' := tk + 1) k₃
      refine h h₂.objs.size _ (J3.pins_of fun p hp => ?_)
      rcases List.mem_append.mp hp with hp | hp
      · exact J3.pin p (List.mem_append_right _ hp)
      · rw [List.mem_singleton.mp hp]
        refine ⟨Heap.get?_push_at rfl rfl, J2.hok.fresh (Nat.le_refl _), Nat.ne_of_gt J2.lt, J2.nofs (Nat.le_refl _), fun v e => nomatch e⟩
/-- a call of the found method, its self bound -/
theorem run_bound {X : Cx} {CX2 : CXT} {k : Nat} {g q x : Addr} {fd : FuncData} {ps : List Str} {sp : Sp} {E : XK} {pins : List (Addr × Obj)} {σ : L2.St} {H : Hp} {s : Shared} {Q : VK} {us : List Value} {vs : List V}
    (G : FnOk X.prog X.w X.K X.mg X.base CX2 k g fd ps sp) (hr : Room k X.A) (hb : Binds X.K fd ps []) (hx : Passes CX2 X E) (I : Inv X pins σ H s)
    (hq : s.heap.get? q = some (PySem.W.methodObj (.ref g) (.ref x))) (r : Vals vs us) (h : sp (.ref x :: vs) H Q E) :
    wpAny (model X.prog X.w) X.A (call (.ref q) us) (EP X pins σ Q) X.xe s := by
  have r2 : Vals (.ref x :: vs) (.ref x :: us) := .cons rfl r
  have long : (Value.ref x :: us).length = ps.length := r2.length ▸ G.len _ _ _ _ h
  have b := hb s (.ref x :: us) I.kIn (by rw [List.append_nil]; exact long)
  rw [List.append_nil] at b
  apply wpAny_call
  apply ks_codeAny_call_bound hq
  apply codeAny_mono (G.run X.A X.stack s H ⟨.ref x :: us, []⟩ (.ref x :: us) (.ref x :: vs) Q E hr I.env0 b r2 h)
  intro r s' hs
  match r, hs with
  | .error _, hs => exact hx pins σ H s _ s' I hs
  | .ok (.ret _), hs => exact I.after hs
  | .ok .next, hs => exact hs.elim
  | .ok .brk, hs => exact hs.elim
  | .ok .cont, hs => exact hs.elim
/-- super().m(e, ..) as a value -/
theorem eval_super {CX2 : CXT} {k : Nat} {fd : FuncData} {ps : List Str} {sp : Sp} {E : XK} {body : List Stmt} {p0 p1 apos pos : Pos} {e : Expr} {es : List Expr} {ta : TA} {s : Shared} {pins : List (Addr × Obj)} {σ : L2.St} {H : Hp} {x dx : Addr} {fs : List (Str × V)} {Q : VK}
    (T : SupTxt P K C D f g cc F m) (hline : (apos.endLine == pos.line) = true)
    (hform : methodCallForm ((e :: es).length + ([] : List Keyword).length) (backTo pos (starEach (e :: es) (envF F f s0.heap.objs.size))) (backToKw pos (keywordEach [] (envF F f s0.heap.objs.size))) = true)
    (I : Inv (ncx CX P w K mg base N F f A outer s0 H0 E0) pins σ H s) (hN : N[0]? = some ("self" : Str)) (hσ : σ[0]? = some (some (.ref x))) (hx : H x = some (.ins C dx fs))
    (G : FnOk P w K mg base CX2 k g fd ps sp) (hr : Room k (ncx CX P w K mg base N F f A outer s0 H0 E0).A) (hb : Binds K fd ps []) (hp : Passes CX2 (ncx CX P w K mg base N F f A outer s0 H0 E0) E)
    (ha : PA (ncx CX P w K mg base N F f A outer s0 H0 E0) (e :: es) ta)
    (he : starEach (e :: es) (envF F f s0.heap.objs.size) = (false, eval e (envF F f s0.heap.objs.size)) :: starEach es (envF F f s0.heap.objs.size))
    (hpl : (backTo pos (starEach es (envF F f s0.heap.objs.size))).any (·.1) = false)
    (h : ta σ H fun vs H1 => sp (.ref x :: vs) H1 Q E) :
    _root_.PySem.wpAt (model P w) (ncx CX P w K mg base N F f A outer s0 H0 E0).A (.func body (envF F f s0.heap.objs.size))
      (eval (.Call (.Attribute (.Call (.Name "super" p0) [] [] p1) m apos) (e :: es) [] pos) (envF F f s0.heap.objs.size)) (EP (ncx CX P w K mg base N F f A outer s0 H0 E0) pins σ Q) (ncx CX P w K mg base N F f A outer s0 H0 E0).xe s := by
  refine at_super T hline hform I hN hσ hx fun q s' J => ?_
  have run := ha.run pos _ s' σ H _ J h
  rw [show starEach (e :: es) (envF F f s0.heap.objs.size) = _ from he]
  rw [show starEach (e :: es) (ncx CX P w K mg base N F f A outer s0 H0 E0).env = _ from he] at run
  apply PySem.W.callWith_of (P := PySem.W.MethP K q g (.ref x)) (by show ((false || (backTo pos (starEach es _)).any (·.1)) || false) = false; rw [hpl]; rfl) (PySem.W.keeps_M T.fg)
  apply evalArgs_plain
  apply thn run
  rintro us s1 ⟨vs, H1, J1, rel, q1⟩
  have hq := (J1.pin (q, PySem.W.methodObj (.ref g) (.ref x)) (List.mem_append_right _ (List.mem_append_right _ List.mem_cons_self))).1
  refine ⟨⟨hq, J1.kIn⟩, ?_⟩
  refine wpAny_mono (run_bound (pins := pins ++ [(q, PySem.W.methodObj (.ref g) (.ref x))]) G hr hb hp J1 hq rel q1) (fun v s2 hv => ?_) fun _ _ z => z
  obtain ⟨y, H2, J2, ry, qy⟩ := hv
  exact ⟨y, H2, J2.pins_of fun p hp => J2.pin p (List.mem_append_right _ (List.mem_append_left _ hp)), ry, qy⟩
theorem cells_at (T : SupTxt P K C D f g cc F m) (e0 : Env0 P w K mg base A outer s0 H0) : CellsAt F.cl ["__class__"] [some (.ref D)] s0.heap H0 := by
  obtain ⟨cv, cd0, csl, hcell⟩ := T.cell
  have hb := e0.mod.kin _ _ hcell
  obtain ⟨h1, h2⟩ := e0.bs _ _ hb
  have hl : ∀ y c, F.cl.lookup y = some c → y = ("__class__" : Str) ∧ c = cc := fun y c z => by
    rw [T.cl] at z
    by_cases e : y = ("__class__" : Str)
    · subst e
      refine ⟨rfl, ?_⟩
      simpa [List.lookup] using z.symm
    · have e2 : (y == ("__class__" : Str)) = false := by simpa using e
      simp [List.lookup, e2] at z
  refine ⟨rfl, fun y c z => ?_, fun a b c z1 z2 => (hl a c z1).1.trans (hl b c z2).1.symm, fun i y z => ?_⟩
  · rw [(hl y c z).2]
    exact ⟨h2, _, _, h1, rfl⟩
  · cases i with
    | zero =>
      cases (show some ("__class__" : Str) = some y from z)
      refine ⟨cc, by rw [T.cl]; simp [List.lookup], fun v ev => ?_⟩
      cases (show some (some (V.ref D)) = some (some v) from ev)
      exact ⟨.ref D, rfl, _, h1, rfl⟩
    | succ n => cases z
/-- a def y = super().m(e, ..); .. keeps its promise -/
theorem okS_set {CX2 : CXT} {k i : Nat} {fd2 : FuncData} {ps ps2 : List Str} {sp sp2 : Sp} {p0 p1 apos pos py pst : Pos} {e : Expr} {es : List Expr} {st : List Stmt} {y : Str}
    {oc : Value} {od : Option Addr} {doc pm : Value} {an : Option Addr} {ct : Value} {osl : Array (Option Value)}
    (T : SupTxt P K C D f g cc F m) (hf : K.lookup f = some ⟨oc, od, .func (ksFn F.name F.qual F.params F.body F.scope .none .none doc pm an (.ref F.c) ct cc), osl⟩)
    (S : NScope N ps ["__class__"] F.scope)
    (hbd : F.body = .Assign [.Name y py] (.Call (.Attribute (.Call (.Name "super" p0) [] [] p1) m apos) (e :: es) [] pos) pst :: st)
    (ar : ∀ vs H Q E, sp vs H Q E → vs.length = ps.length) (hN : N[0]? = some ("self" : Str)) (hi : N[i]? = some y) (hy : F.scope.names.lookup y = some .local)
    (G : FnOk P w K mg base CX2 k g fd2 ps2 sp2) (hb2 : Binds K fd2 ps2 [])
    (hline : (apos.endLine == pos.line) = true)
    (hform : ∀ L, methodCallForm ((e :: es).length + ([] : List Keyword).length) (backTo pos (starEach (e :: es) (envF F f L))) (backToKw pos (keywordEach [] (envF F f L))) = true)
    (he : ∀ L, starEach (e :: es) (envF F f L) = (false, eval e (envF F f L)) :: starEach es (envF F f L))
    (hpl : ∀ L, (backTo pos (starEach es (envF F f L))).any (·.1) = false)
    (hsw : ∀ L, swapsWith (.Call (.Attribute (.Call (.Name "super" p0) [] [] p1) m apos) (e :: es) [] pos) (some (.Name y py)) pst.line (envF F f L) = pure false)
    (bd : ∀ (A : Around) (outer : List Env) (s : Shared) (H : Hp) (vs : List V) (Q : VK) (E : XK), Room k (A.deeper (envF F f s.heap.objs.size)) → sp vs H Q E →
      ∃ (x dx : Addr) (fs : List (Str × V)) (E2 : XK) (ta : TA) (tr : TS), (startF N vs [some (.ref D)])[0]? = some (some (.ref x)) ∧ H x = some (.ins C dx fs) ∧ Passes CX2 (ncx CX P w K mg base N F f A outer s H E) E2 ∧
        PA (ncx CX P w K mg base N F f A outer s H E) (e :: es) ta ∧ PSs (ncx CX P w K mg base N F f A outer s H E) st tr ∧
        ta (startF N vs [some (.ref D)]) H fun ws H1 => sp2 (.ref x :: ws) H1 (fun v H2 => tr { nx := fun _ H' => Q .non H', rt := Q } ((startF N vs [some (.ref D)]).set i (some v)) H2) E2) :
    FnOk P w K mg base CX (k + 1) f (ksFn F.name F.qual F.params F.body F.scope .none .none doc pm an (.ref F.c) ct cc) ps sp := by
  refine ⟨ar, fun A outer s H args us vs Q E room env bind rel prem => ?_⟩
  have kin : K.In s.heap := env.mod.kin.keeps fun b o z => (env.bs b o z).1
  have nl : s.heap.NoLimit := env.mod.nolimit.keeps fun b o z => (env.bs b o z).1
  have long := ar _ _ _ _ prem
  obtain ⟨x, dx, fs, E2, ta, tr, hσ, hx, hp, ha, hr, q⟩ := bd A outer s H vs Q E (room.deeper _) prem
  have cells := cells_at T env
  have TT := T
  obtain ⟨nm, qual, params, body, scope, cl, c⟩ := F
  have hcl : cl = [(("__class__" : Str), cc)] := T.cl
  subst hcl
  refine ks_codeAny_call_defAt (binds := ps.zip us) room.depth (kin _ _ hf) rfl nl (PySem.W.codeRec_of kin T.code) rfl bind S.nocell (fun z hz => S.par z.1 (List.of_mem_zip hz).1) (fun h₁ hns k₁ => ?_) S.co S.gen S.kind
  have I : Inv (ncx CX P w K mg base N ⟨nm, qual, params, body, scope, [(("__class__" : Str), cc)], c⟩ f A outer s H E) [] (startF N vs [some (.ref D)]) H { s with heap := h₁, toks := s.toks + (ps.zip us).length } := inv_startN S room.hd env long rel cells hns k₁
  have hbd2 : body = .Assign [.Name y py] (.Call (.Attribute (.Call (.Name "super" p0) [] [] p1) m apos) (e :: es) [] pos) pst :: st := hbd
  subst hbd2
  generalize hF : (⟨nm, qual, params, .Assign [.Name y py] (.Call (.Attribute (.Call (.Name "super" p0) [] [] p1) m apos) (e :: es) [] pos) pst :: st, scope, [(("__class__" : Str), cc)], c⟩ : NF) = F at *
  have W : _root_.PySem.wpAt (model P w) (ncx CX P w K mg base N F f A outer s H E).A (.func F.body (envF F f s.heap.objs.size)) (execs F.body (envF F f s.heap.objs.size))
      (SP (ncx CX P w K mg base N F f A outer s H E) [] { nx := fun _ H' => Q .non H', rt := Q }) (ncx CX P w K mg base N F f A outer s H E).xe { s with heap := h₁, toks := s.toks + (ps.zip us).length } := by
    rw [hbd]
    apply ks_wpAt_execs_cons
    apply ks_wpAt_Assign_Name (hs := hsw _)
    apply PySem.ks_wpAt_mono (eval_super (σ := startF N vs [some (.ref D)]) TT hline (hform _) I hN hσ hx G (room.deeper _) hb2 hp ha (he _) (hpl _) q)
    · intro v s1 hv
      obtain ⟨u, H1, I1, ru, q1⟩ := hv
      apply store_ok I1 S.nd hi (.inl hy) ru (hf := .inr hy)
      intro s2 I2
      exact _root_.PySem.wpAt_of_wpAny (hr.run [] s2 _ H1 _ I2 q1)
    · exact fun _ _ z => z
  subst hF
  refine PySem.ks_wpAt_mono W (fun fl s' hs => ?_) fun _ _ z => z
  · cases fl with
    | ret u =>
      obtain ⟨v, σ2, H2, J, rv, qv⟩ := hs
      exact ⟨v, H2, J.os, J.bare, J.base, J.hok, rv, qv⟩
    | next =>
      obtain ⟨σ2, H2, J, qv⟩ := hs
      exact ⟨.non, H2, J.os, J.bare, J.base, J.hok, rfl, qv⟩
    | brk =>
      obtain ⟨_, _, _, qv⟩ := hs
      exact qv.elim
    | cont =>
      obtain ⟨_, _, _, qv⟩ := hs
      exact qv.elim
/-- super().m() as a value -/
theorem eval_super0 {CX2 : CXT} {k : Nat} {fd : FuncData} {ps : List Str} {sp : Sp} {E : XK} {body : List Stmt} {p0 p1 apos pos : Pos} {s : Shared} {pins : List (Addr × Obj)} {σ : L2.St} {H : Hp} {x dx : Addr} {fs : List (Str × V)} {Q : VK}
    (T : SupTxt P K C D f g cc F m) (hline : (apos.endLine == pos.line) = true)
    (hform : methodCallForm (([] : List Expr).length + ([] : List Keyword).length) (backTo pos (starEach [] (envF F f s0.heap.objs.size))) (backToKw pos (keywordEach [] (envF F f s0.heap.objs.size))) = true)
    (I : Inv (ncx CX P w K mg base N F f A outer s0 H0 E0) pins σ H s) (hN : N[0]? = some ("self" : Str)) (hσ : σ[0]? = some (some (.ref x))) (hx : H x = some (.ins C dx fs))
    (G : FnOk P w K mg base CX2 k g fd ps sp) (hr : Room k (ncx CX P w K mg base N F f A outer s0 H0 E0).A) (hb : Binds K fd ps []) (hp : Passes CX2 (ncx CX P w K mg base N F f A outer s0 H0 E0) E)
    (h : sp [.ref x] H Q E) :
    _root_.PySem.wpAt (model P w) (ncx CX P w K mg base N F f A outer s0 H0 E0).A (.func body (envF F f s0.heap.objs.size))
      (eval (.Call (.Attribute (.Call (.Name "super" p0) [] [] p1) m apos) [] [] pos) (envF F f s0.heap.objs.size)) (EP (ncx CX P w K mg base N F f A outer s0 H0 E0) pins σ Q) (ncx CX P w K mg base N F f A outer s0 H0 E0).xe s := by
  refine at_super T hline hform I hN hσ hx fun q s' J => ?_
  have hq := (J.pin (q, PySem.W.methodObj (.ref g) (.ref x)) (List.mem_append_right _ (List.mem_append_right _ List.mem_cons_self))).1
  apply PySem.W.callWith_of (P := PySem.W.MethP K q g (.ref x)) rfl (PySem.W.keeps_M T.fg)
  apply evalArgs_nil3
  refine ⟨⟨hq, J.kIn⟩, ?_⟩
  refine wpAny_mono (run_bound (us := []) (vs := []) (pins := pins ++ [(q, PySem.W.methodObj (.ref g) (.ref x))]) G hr hb hp J hq .nil h) (fun v s2 hv => ?_) fun _ _ z => z
  obtain ⟨y, H2, J2, ry, qy⟩ := hv
  exact ⟨y, H2, J2.pins_of fun p hp => J2.pin p (List.mem_append_right _ (List.mem_append_left _ hp)), ry, qy⟩
/-- a def super().m(); .. keeps its promise -/
theorem okS_do {CX2 : CXT} {k : Nat} {fd2 : FuncData} {ps ps2 : List Str} {sp sp2 : Sp} {p0 p1 apos pos pst : Pos} {st : List Stmt}
    {oc : Value} {od : Option Addr} {doc pm : Value} {an : Option Addr} {ct : Value} {osl : Array (Option Value)}
    (T : SupTxt P K C D f g cc F m) (hf : K.lookup f = some ⟨oc, od, .func (ksFn F.name F.qual F.params F.body F.scope .none .none doc pm an (.ref F.c) ct cc), osl⟩)
    (S : NScope N ps ["__class__"] F.scope)
    (hbd : F.body = .Expr (.Call (.Attribute (.Call (.Name "super" p0) [] [] p1) m apos) [] [] pos) pst :: st)
    (ar : ∀ vs H Q E, sp vs H Q E → vs.length = ps.length) (hN : N[0]? = some ("self" : Str))
    (G : FnOk P w K mg base CX2 k g fd2 ps2 sp2) (hb2 : Binds K fd2 ps2 [])
    (hline : (apos.endLine == pos.line) = true)
    (hform : ∀ L, methodCallForm (([] : List Expr).length + ([] : List Keyword).length) (backTo pos (starEach [] (envF F f L))) (backToKw pos (keywordEach [] (envF F f L))) = true)
    (hsw : ∀ L, swapsWith (.Call (.Attribute (.Call (.Name "super" p0) [] [] p1) m apos) [] [] pos) none pst.line (envF F f L) = pure false)
    (bd : ∀ (A : Around) (outer : List Env) (s : Shared) (H : Hp) (vs : List V) (Q : VK) (E : XK), Room k (A.deeper (envF F f s.heap.objs.size)) → sp vs H Q E →
      ∃ (x dx : Addr) (fs : List (Str × V)) (E2 : XK) (tr : TS), (startF N vs [some (.ref D)])[0]? = some (some (.ref x)) ∧ H x = some (.ins C dx fs) ∧ Passes CX2 (ncx CX P w K mg base N F f A outer s H E) E2 ∧
        PSs (ncx CX P w K mg base N F f A outer s H E) st tr ∧
        sp2 [.ref x] H (fun _ H2 => tr { nx := fun _ H' => Q .non H', rt := Q } (startF N vs [some (.ref D)]) H2) E2) :
    FnOk P w K mg base CX (k + 1) f (ksFn F.name F.qual F.params F.body F.scope .none .none doc pm an (.ref F.c) ct cc) ps sp := by
  refine ⟨ar, fun A outer s H args us vs Q E room env bind rel prem => ?_⟩
  have kin : K.In s.heap := env.mod.kin.keeps fun b o z => (env.bs b o z).1
  have nl : s.heap.NoLimit := env.mod.nolimit.keeps fun b o z => (env.bs b o z).1
  have long := ar _ _ _ _ prem
  obtain ⟨x, dx, fs, E2, tr, hσ, hx, hp, hr, q⟩ := bd A outer s H vs Q E (room.deeper _) prem
  have cells := cells_at T env
  have TT := T
  obtain ⟨nm, qual, params, body, scope, cl, c⟩ := F
  have hcl : cl = [(("__class__" : Str), cc)] := T.cl
  subst hcl
  refine ks_codeAny_call_defAt (binds := ps.zip us) room.depth (kin _ _ hf) rfl nl (PySem.W.codeRec_of kin T.code) rfl bind S.nocell (fun z hz => S.par z.1 (List.of_mem_zip hz).1) (fun h₁ hns k₁ => ?_) S.co S.gen S.kind
  have I : Inv (ncx CX P w K mg base N ⟨nm, qual, params, body, scope, [(("__class__" : Str), cc)], c⟩ f A outer s H E) [] (startF N vs [some (.ref D)]) H { s with heap := h₁, toks := s.toks + (ps.zip us).length } := inv_startN S room.hd env long rel cells hns k₁
  have hbd2 : body = .Expr (.Call (.Attribute (.Call (.Name "super" p0) [] [] p1) m apos) [] [] pos) pst :: st := hbd
  subst hbd2
  generalize hF : (⟨nm, qual, params, .Expr (.Call (.Attribute (.Call (.Name "super" p0) [] [] p1) m apos) [] [] pos) pst :: st, scope, [(("__class__" : Str), cc)], c⟩ : NF) = F at *
  have W : _root_.PySem.wpAt (model P w) (ncx CX P w K mg base N F f A outer s H E).A (.func F.body (envF F f s.heap.objs.size)) (execs F.body (envF F f s.heap.objs.size))
      (SP (ncx CX P w K mg base N F f A outer s H E) [] { nx := fun _ H' => Q .non H', rt := Q }) (ncx CX P w K mg base N F f A outer s H E).xe { s with heap := h₁, toks := s.toks + (ps.zip us).length } := by
    rw [hbd]
    apply ks_wpAt_execs_cons
    apply ks_wpAt_Expr_any (hi := I.quiet) (hs := hsw _)
    apply PySem.ks_wpAt_mono (eval_super0 (σ := startF N vs [some (.ref D)]) TT hline (hform _) I hN hσ hx G (room.deeper _) hb2 hp q)
    · intro v s1 hv
      obtain ⟨u, H1, I1, ru, q1⟩ := hv
      exact _root_.PySem.wpAt_of_wpAny (hr.run [] s1 _ H1 _ I1 q1)
    · exact fun _ _ z => z
  subst hF
  refine PySem.ks_wpAt_mono W (fun fl s' hs => ?_) fun _ _ z => z
  · cases fl with
    | ret u =>
      obtain ⟨v, σ2, H2, J, rv, qv⟩ := hs
      exact ⟨v, H2, J.os, J.bare, J.base, J.hok, rv, qv⟩
    | next =>
      obtain ⟨σ2, H2, J, qv⟩ := hs
      exact ⟨.non, H2, J.os, J.bare, J.base, J.hok, rfl, qv⟩
    | brk =>
      obtain ⟨_, _, _, qv⟩ := hs
      exact qv.elim
    | cont =>
      obtain ⟨_, _, _, qv⟩ := hs
      exact qv.elim
end
end Gs
/-! Methods that raise. -/
namespace Gx
open PySem PySem.Spec PyProof.Rows L2 Gd
theorem pe_or {X : Cx} {e : Expr} {t u : TE} (a : PE X e t) (b : PE X e u) : PE X e (fun σ H Q => t σ H Q ∨ u σ H Q) := ⟨fun pins s σ H Q I h => h.elim (a.run pins s σ H Q I) (b.run pins s σ H Q I)⟩
/-- a method that may raise -/
structure MetX (P : Program) (w : World) (K : PySem.W.Frag) (mg : Str → Option Value) (base : Heap) (k : Nat) (C : Addr) (m : Str) (sp : Sp) : Prop where
  ex : ∃ (f : Addr) (fd : FuncData) (ps : List Str), Cls K C ∧ Meth K C m f ∧ FnOk P w K mg base (L2.CX P w) k f fd ps sp ∧ Binds K fd ps []
def tMethX (C : Addr) (m : Str) (sp : Sp) (E : L2.St → XK) (ta : TE) (t : TA) : TE := fun σ H Q => ta σ H fun x H1 => ∃ a dx fs, x = .ref a ∧ H1 a = some (.ins C dx fs) ∧ fs.lookup m = none ∧ t σ H1 fun vs H2 => sp (x :: vs) H2 Q (E σ)
section
variable {X : Cx} {k j : Nat} {C : Addr} {m : Str} {sp : Sp} {pos apos : Pos} {e o : Expr} {es : List Expr} {ta : TE} {t : TA}
theorem pe_mtX {W : WX} {pl : Sem Bool} (c : MetX X.prog X.w X.K X.mg X.base k C m sp) (hr : Room j X.A) (hk : k ≤ j) (tk : Takes X W) (he : PE X o ta) (ha : PA X (e :: es) t)
    (hst : starEach (e :: es) X.env = (false, eval e X.env) :: starEach es X.env := by rfl) (hpl : (backTo pos (starEach es X.env)).any (·.1) = false := by rfl)
    (ht : eval (.Call (.Attribute o m apos) (e :: es) [] pos) X.env = (do
      let ov ← eval o X.env
      standAt apos.atName
      let (f, first) ← holding [ov] (getMethod ov m pl)
      callWith pos f first (backTo pos (starEach (e :: es) X.env)) (backToKw pos (keywordEach [] X.env))) := by rfl) :
    PE X (.Call (.Attribute o m apos) (e :: es) [] pos) (tMethX C m sp (WE W) ta t) := by
  obtain ⟨f, fd, ps, hc, hm, F, b⟩ := c.ex
  refine ⟨fun pins s σ H Q I h => ?_⟩
  refine PySem.W.methodCall_KW (pl := pl) (thn (he.run pins s σ H _ I h) fun u s1 ⟨x, H1, I1, rx, a, dx, fs, ex, ea, l, q⟩ => ?_) ht
  subst ex
  obtain rfl : u = Value.ref a := rx
  refine getmeth_ok I1 ea hc hm l ?_
  refine PySem.W.callWith_K (first := [.ref a]) (h₀ := X.base) I.ok.mod.kin hm.kp (thn (ha.run pos pins s1 σ H1 _ I1 q) fun us s2 ⟨vs, H2, I2, r, q2⟩ => ⟨I2.kIn, ?_⟩) hst hpl
  exact run_fnS (us := .ref a :: us) (vs := .ref a :: vs) F (hr.mono hk) b (passAt tk σ) I2 (.cons rfl r) q2
/-- where it raises nothing -/
theorem pe_mtN {pl : Sem Bool} (c : MetX X.prog X.w X.K X.mg X.base k C m sp) (hr : Room j X.A) (hk : k ≤ j) (he : PE X o ta) (ha : PA X (e :: es) t)
    (hst : starEach (e :: es) X.env = (false, eval e X.env) :: starEach es X.env := by rfl) (hpl : (backTo pos (starEach es X.env)).any (·.1) = false := by rfl)
    (ht : eval (.Call (.Attribute o m apos) (e :: es) [] pos) X.env = (do
      let ov ← eval o X.env
      standAt apos.atName
      let (f, first) ← holding [ov] (getMethod ov m pl)
      callWith pos f first (backTo pos (starEach (e :: es) X.env)) (backToKw pos (keywordEach [] X.env))) := by rfl) :
    PE X (.Call (.Attribute o m apos) (e :: es) [] pos) (tMeth C m sp [] E0 ta t) := by
  obtain ⟨f, fd, ps, hc, hm, F, b⟩ := c.ex
  exact pe_meth (pl := pl) he hc hm F (hr.mono hk) b .nil passL ha hst hpl ht
end
end Gx
set_option maxHeartbeats 1000000
namespace K16
open PySem PySem.Spec PyProof.Rows L2 Gd
open C8 (clsBody Met pe_mt pe_mt0)
def topS (i : Nat) : Stmt := PySem.Challenge.pw_makeskept_k16_tours_by_coming_and_leavin.main.body.getD i (.Pass ⟨0, 0, 0, 0⟩)
abbrev s__wall : Stmt := topS 0
abbrev s_is_whole : Stmt := topS 7
abbrev s__law_cell_at : Stmt := topS 16
abbrev s__law_box : Stmt := topS 17
abbrev s__law_take : Stmt := topS 18
abbrev s__law_end : Stmt := topS 19
abbrev s__law_lay : Stmt := topS 20
abbrev s__law_one_of : Stmt := topS 21
abbrev s__law_lists_right : Stmt := topS 22
abbrev s__law_right : Stmt := topS 23
abbrev s_law : Stmt := topS 24
abbrev s_NoMake___init__ : Stmt := (clsBody (topS 3)).getD 0 (.Pass ⟨0, 0, 0, 0⟩)
abbrev s_NoMark___init__ : Stmt := (clsBody (topS 4)).getD 0 (.Pass ⟨0, 0, 0, 0⟩)
abbrev s_TooMany___init__ : Stmt := (clsBody (topS 5)).getD 0 (.Pass ⟨0, 0, 0, 0⟩)
abbrev s_Order___init__ : Stmt := (clsBody (topS 11)).getD 0 (.Pass ⟨0, 0, 0, 0⟩)
abbrev s_Order_behind : Stmt := (clsBody (topS 11)).getD 1 (.Pass ⟨0, 0, 0, 0⟩)
abbrev s_Order_drop : Stmt := (clsBody (topS 11)).getD 2 (.Pass ⟨0, 0, 0, 0⟩)
abbrev s_Order_many : Stmt := (clsBody (topS 11)).getD 3 (.Pass ⟨0, 0, 0, 0⟩)
abbrev s_Order_marks : Stmt := (clsBody (topS 11)).getD 4 (.Pass ⟨0, 0, 0, 0⟩)
abbrev s_Order_ahead : Stmt := (clsBody (topS 11)).getD 5 (.Pass ⟨0, 0, 0, 0⟩)
abbrev s_Order_label : Stmt := (clsBody (topS 11)).getD 6 (.Pass ⟨0, 0, 0, 0⟩)
abbrev s_Order_anew : Stmt := (clsBody (topS 11)).getD 7 (.Pass ⟨0, 0, 0, 0⟩)
abbrev s_Order_copied : Stmt := (clsBody (topS 11)).getD 8 (.Pass ⟨0, 0, 0, 0⟩)
abbrev s_Order__label_at : Stmt := (clsBody (topS 11)).getD 9 (.Pass ⟨0, 0, 0, 0⟩)
abbrev s_Order__label_anew : Stmt := (clsBody (topS 11)).getD 10 (.Pass ⟨0, 0, 0, 0⟩)
abbrev s_Order__need_mark : Stmt := (clsBody (topS 11)).getD 11 (.Pass ⟨0, 0, 0, 0⟩)
abbrev s_Tour___init__ : Stmt := (clsBody (topS 14)).getD 0 (.Pass ⟨0, 0, 0, 0⟩)
abbrev s_Tour_many : Stmt := (clsBody (topS 14)).getD 1 (.Pass ⟨0, 0, 0, 0⟩)
abbrev s_Tour_grow : Stmt := (clsBody (topS 14)).getD 2 (.Pass ⟨0, 0, 0, 0⟩)
abbrev s_Tour_marks_of : Stmt := (clsBody (topS 14)).getD 3 (.Pass ⟨0, 0, 0, 0⟩)
abbrev s_Tour_order : Stmt := (clsBody (topS 14)).getD 4 (.Pass ⟨0, 0, 0, 0⟩)
abbrev s_Tour_coming : Stmt := (clsBody (topS 14)).getD 5 (.Pass ⟨0, 0, 0, 0⟩)
abbrev s_Tour_leaving : Stmt := (clsBody (topS 14)).getD 6 (.Pass ⟨0, 0, 0, 0⟩)
abbrev s_Tour_within : Stmt := (clsBody (topS 14)).getD 7 (.Pass ⟨0, 0, 0, 0⟩)
abbrev s_Tour_beneath : Stmt := (clsBody (topS 14)).getD 8 (.Pass ⟨0, 0, 0, 0⟩)
abbrev s_Tour_copied : Stmt := (clsBody (topS 14)).getD 9 (.Pass ⟨0, 0, 0, 0⟩)
abbrev s_Tour__makes_by : Stmt := (clsBody (topS 14)).getD 10 (.Pass ⟨0, 0, 0, 0⟩)
abbrev s_Tour__is_beneath : Stmt := (clsBody (topS 14)).getD 11 (.Pass ⟨0, 0, 0, 0⟩)
abbrev s_Tour__need_make : Stmt := (clsBody (topS 14)).getD 12 (.Pass ⟨0, 0, 0, 0⟩)
theorem sc_Order___init__ : FnScope ["self"] ["self"] (defScope s_Order___init__) := ⟨rfl, rfl, rfl, by decide +kernel, rfl, by decide +kernel, by decide +kernel⟩
theorem sc_Order_behind : FnScope ["self", "mark", "at", "number"] ["self", "mark"] (defScope s_Order_behind) := ⟨rfl, rfl, rfl, by decide +kernel, rfl, by decide +kernel, by decide +kernel⟩
theorem sc_Order_drop : FnScope ["self", "mark"] ["self", "mark"] (defScope s_Order_drop) := ⟨rfl, rfl, rfl, by decide +kernel, rfl, by decide +kernel, by decide +kernel⟩
theorem sc_Order_many : FnScope ["self"] ["self"] (defScope s_Order_many) := ⟨rfl, rfl, rfl, by decide +kernel, rfl, by decide +kernel, by decide +kernel⟩
theorem sc_Order_marks : FnScope ["self"] ["self"] (defScope s_Order_marks) := ⟨rfl, rfl, rfl, by decide +kernel, rfl, by decide +kernel, by decide +kernel⟩
theorem sc_Order_ahead : FnScope ["self", "one", "other"] ["self", "one", "other"] (defScope s_Order_ahead) := ⟨rfl, rfl, rfl, by decide +kernel, rfl, by decide +kernel, by decide +kernel⟩
theorem sc_Order_label : FnScope ["self", "mark"] ["self", "mark"] (defScope s_Order_label) := ⟨rfl, rfl, rfl, by decide +kernel, rfl, by decide +kernel, by decide +kernel⟩
theorem sc_Order_anew : FnScope ["self"] ["self"] (defScope s_Order_anew) := ⟨rfl, rfl, rfl, by decide +kernel, rfl, by decide +kernel, by decide +kernel⟩
theorem sc_Order_copied : FnScope ["self", "other"] ["self"] (defScope s_Order_copied) := ⟨rfl, rfl, rfl, by decide +kernel, rfl, by decide +kernel, by decide +kernel⟩
theorem sc_Order__label_at : FnScope ["self", "at"] ["self", "at"] (defScope s_Order__label_at) := ⟨rfl, rfl, rfl, by decide +kernel, rfl, by decide +kernel, by decide +kernel⟩
theorem sc_Order__label_anew : FnScope ["self", "step", "at", "mark"] ["self"] (defScope s_Order__label_anew) := ⟨rfl, rfl, rfl, by decide +kernel, rfl, by decide +kernel, by decide +kernel⟩
theorem sc_Order__need_mark : FnScope ["self", "mark"] ["self", "mark"] (defScope s_Order__need_mark) := ⟨rfl, rfl, rfl, by decide +kernel, rfl, by decide +kernel, by decide +kernel⟩
theorem sc_Tour___init__ : FnScope ["self"] ["self"] (defScope s_Tour___init__) := ⟨rfl, rfl, rfl, by decide +kernel, rfl, by decide +kernel, by decide +kernel⟩
theorem sc_Tour_many : FnScope ["self"] ["self"] (defScope s_Tour_many) := ⟨rfl, rfl, rfl, by decide +kernel, rfl, by decide +kernel, by decide +kernel⟩
theorem sc_Tour_grow : FnScope ["self", "make", "number", "coming", "leaving"] ["self", "make"] (defScope s_Tour_grow) := ⟨rfl, rfl, rfl, by decide +kernel, rfl, by decide +kernel, by decide +kernel⟩
theorem sc_Tour_marks_of : FnScope ["self", "make"] ["self", "make"] (defScope s_Tour_marks_of) := ⟨rfl, rfl, rfl, by decide +kernel, rfl, by decide +kernel, by decide +kernel⟩
theorem sc_Tour_order : FnScope ["self"] ["self"] (defScope s_Tour_order) := ⟨rfl, rfl, rfl, by decide +kernel, rfl, by decide +kernel, by decide +kernel⟩
theorem sc_Tour_coming : FnScope ["self", "make", "marks"] ["self"] (defScope s_Tour_coming) := ⟨rfl, rfl, rfl, by decide +kernel, rfl, by decide +kernel, by decide +kernel⟩
theorem sc_Tour_leaving : FnScope ["self", "make", "marks"] ["self"] (defScope s_Tour_leaving) := ⟨rfl, rfl, rfl, by decide +kernel, rfl, by decide +kernel, by decide +kernel⟩
theorem sc_Tour_within : FnScope ["self", "one", "other"] ["self", "one", "other"] (defScope s_Tour_within) := ⟨rfl, rfl, rfl, by decide +kernel, rfl, by decide +kernel, by decide +kernel⟩
theorem sc_Tour_beneath : FnScope ["self", "make"] ["self", "make"] (defScope s_Tour_beneath) := ⟨rfl, rfl, rfl, by decide +kernel, rfl, by decide +kernel, by decide +kernel⟩
theorem sc_Tour_copied : FnScope ["self", "other"] ["self"] (defScope s_Tour_copied) := ⟨rfl, rfl, rfl, by decide +kernel, rfl, by decide +kernel, by decide +kernel⟩
theorem sc_Tour__makes_by : FnScope ["self", "makes", "mark"] ["self", "makes"] (defScope s_Tour__makes_by) := ⟨rfl, rfl, rfl, by decide +kernel, rfl, by decide +kernel, by decide +kernel⟩
theorem sc_Tour__is_beneath : FnScope ["self", "one", "other"] ["self", "one", "other"] (defScope s_Tour__is_beneath) := ⟨rfl, rfl, rfl, by decide +kernel, rfl, by decide +kernel, by decide +kernel⟩
theorem sc_Tour__need_make : FnScope ["self", "make"] ["self", "make"] (defScope s_Tour__need_make) := ⟨rfl, rfl, rfl, by decide +kernel, rfl, by decide +kernel, by decide +kernel⟩
theorem sc__wall : FnScope ["k"] ["k"] (defScope s__wall) := ⟨rfl, rfl, rfl, by decide +kernel, rfl, by decide +kernel, by decide +kernel⟩
theorem sc_is_whole : FnScope ["thing", "low", "high"] ["thing", "low", "high"] (defScope s_is_whole) := ⟨rfl, rfl, rfl, by decide +kernel, rfl, by decide +kernel, by decide +kernel⟩
theorem sc__law_cell_at : FnScope ["_law_script", "_law_k"] ["_law_script", "_law_k"] (defScope s__law_cell_at) := ⟨rfl, rfl, rfl, by decide +kernel, rfl, by decide +kernel, by decide +kernel⟩
theorem sc__law_box : FnScope ["_law_cell"] ["_law_cell"] (defScope s__law_box) := ⟨rfl, rfl, rfl, by decide +kernel, rfl, by decide +kernel, by decide +kernel⟩
theorem sc__law_take : FnScope ["_law_box_here", "_law_many", "_law_digit", "_law_number"] ["_law_box_here", "_law_many"] (defScope s__law_take) := ⟨rfl, rfl, rfl, by decide +kernel, rfl, by decide +kernel, by decide +kernel⟩
theorem sc__law_end : FnScope ["_law_row", "_law_at"] ["_law_row", "_law_at"] (defScope s__law_end) := ⟨rfl, rfl, rfl, by decide +kernel, rfl, by decide +kernel, by decide +kernel⟩
theorem sc__law_lay : FnScope ["_law_model", "_law_mark", "_law_row", "_law_at", "_law_step", "_law_k", "_law_one", "_law_label"] ["_law_model", "_law_mark"] (defScope s__law_lay) := ⟨rfl, rfl, rfl, by decide +kernel, rfl, by decide +kernel, by decide +kernel⟩
theorem sc__law_one_of : FnScope ["_law_box_here", "_law_many", "_law_way", "_law_at"] ["_law_box_here", "_law_many"] (defScope s__law_one_of) := ⟨rfl, rfl, rfl, by decide +kernel, rfl, by decide +kernel, by decide +kernel⟩
theorem sc__law_lists_right : FnScope ["_law_tour", "_law_model", "_law_row", "_law_lap", "_law_order", "_law_coming", "_law_leaving", "_law_mark", "_law_label"] ["_law_tour", "_law_model"] (defScope s__law_lists_right) := ⟨rfl, rfl, rfl, by decide +kernel, rfl, by decide +kernel, by decide +kernel⟩
theorem sc__law_right : FnScope ["_law_box_here", "_law_tour", "_law_model", "_law_many", "_law_turn", "_law_make"] ["_law_box_here", "_law_tour", "_law_model"] (defScope s__law_right) := ⟨rfl, rfl, rfl, by decide +kernel, rfl, by decide +kernel, by decide +kernel⟩
theorem sc_law : FnScope ["_law_script", "_law_tours", "_law_models", "_law_k", "_law_box_here", "_law_at", "_law_copies", "_law_due", "_law_make", "_law_one"] ["_law_script"] (defScope s_law) := ⟨rfl, rfl, rfl, by decide +kernel, rfl, by decide +kernel, by decide +kernel⟩
structure Txt (K : PySem.W.Frag) (mg : Str → Option Value) : Prop where
  b_len : mg "len" = none
  b_max : mg "max" = none
  b_min : mg "min" = none
  b_range : mg "range" = none
  b_repr : mg "repr" = none
  b_isinstance : mg "isinstance" = none
  b_enumerate : mg "enumerate" = none
  t_int : mg "int" = none
  t_bool : mg "bool" = none
  t_list : mg "list" = none
  t_dict : mg "dict" = none
  g_MOST_MARKS : GInt mg "MOST_MARKS" 200
  g_LABELS : GInt mg "LABELS" 1024
  g_MOST_MAKES : GInt mg "MOST_MAKES" 64
/-- the class of orders -/
structure OrdC (K : PySem.W.Frag) (C : Addr) : Prop where
  cl : Cls K C
  n_marks : NoAttr K C "_marks"
  n_labels : NoAttr K C "_labels"
  n_given : NoAttr K C "_given"
  n_times : NoAttr K C "_times"
def fields : List Str := ["_marks", "_labels", "_given", "_times"]
def num (j : Nat) : V := .int (j : Nat)
theorem putF_len {f : Str} {v x : V} : ∀ {fs : List (Str × V)}, fs.lookup f = some x → (putF f v fs).length = fs.length
  | [], h => by cases h
  | (g, y) :: r, h => by
    unfold putF
    by_cases e : g = f
    · rw [if_pos e]
      rfl
    · rw [if_neg e]
      have e2 : (f == g) = false := by simpa using fun z => e z.symm
      rw [List.lookup_cons, e2] at h
      rw [List.length_cons, List.length_cons, putF_len h]
/-! lists of marks and their labels -/
def inl {α : Type} (l : List α) (k : Nat) (x : α) : List α := l.take k ++ [x] ++ l.drop k
theorem inl_at {α : Type} {l : List α} {k : Nat} {x : α} (hk : k ≤ l.length) (j : Nat) : (inl l k x)[j]? = if j < k then l[j]? else if j = k then some x else l[j - 1]? := by
  unfold inl
  have h1 : (l.take k).length = k := by rw [List.length_take]; omega
  by_cases e : j < k
  · rw [if_pos e, List.append_assoc, List.getElem?_append_left (by omega), List.getElem?_take, if_pos e]
  · rw [if_neg e]
    by_cases e2 : j = k
    · rw [if_pos e2, List.append_assoc, List.getElem?_append_right (by omega), h1, e2, Nat.sub_self]
      rfl
    · rw [if_neg e2, List.getElem?_append_right (by rw [List.length_append, h1]; show k + 1 ≤ j; omega), List.length_append, h1, List.getElem?_drop]
      congr 1
      show k + (j - (k + 1)) = j - 1
      omega
theorem inl_len {α : Type} {l : List α} {k : Nat} {x : α} (hk : k ≤ l.length) : (inl l k x).length = l.length + 1 := by
  unfold inl
  rw [List.length_append, List.length_append, List.length_take, List.length_drop]
  show min k l.length + 1 + _ = _
  omega
theorem inl_map {α β : Type} (f : α → β) (l : List α) (k : Nat) (x : α) : (inl l k x).map f = inl (l.map f) k (f x) := by
  unfold inl
  rw [List.map_append, List.map_append, List.map_take, List.map_drop]
  rfl
def labAt (ls : List Nat) (i : Nat) : Nat := ls.getD i 1024
theorem labAt_in {ls : List Nat} {i l : Nat} (h : ls[i]? = some l) : labAt ls i = l := by
  unfold labAt
  rw [List.getD_eq_getElem?_getD, h]
  rfl
theorem labAt_end {ls : List Nat} {i : Nat} (h : ls.length ≤ i) : labAt ls i = 1024 := by
  unfold labAt
  rw [List.getD_eq_getElem?_getD, List.getElem?_eq_none h]
  rfl
def anewL (n : Nat) : List Nat := (List.range n).map fun k => k * (1024 / n)
theorem anew_len (n : Nat) : (anewL n).length = n := by
  unfold anewL
  rw [List.length_map, List.length_range]
theorem anew_at {n i : Nat} (h : i < n) : (anewL n)[i]? = some (i * (1024 / n)) := by
  unfold anewL
  rw [List.getElem?_map, List.getElem?_range h]
  rfl
/-- an order as it must be -/
structure Ok (ms ls : List Nat) (gv : Nat) : Prop where
  len : ls.length = ms.length
  pos : 0 < ms.length
  few : ms.length ≤ 200
  nd : ∀ (i j m : Nat), ms[i]? = some m → ms[j]? = some m → i = j
  lt : ∀ (i m : Nat), ms[i]? = some m → m < gv
  inc : ∀ (i j a b : Nat), i < j → ls[i]? = some a → ls[j]? = some b → a < b
  top : ∀ (i a : Nat), ls[i]? = some a → a < 1024
def gap (ls : List Nat) (i : Nat) : Prop := labAt ls i + 2 ≤ labAt ls (i + 1)
instance (ls : List Nat) (i : Nat) : Decidable (gap ls i) := inferInstanceAs (Decidable (_ ≤ _))
/-- the labels that a mark finds that is put behind the i-th -/
def readyL (ls : List Nat) (i : Nat) : List Nat := if gap ls i then ls else anewL ls.length
theorem ready_len (ls : List Nat) (i : Nat) : (readyL ls i).length = ls.length := by
  unfold readyL
  split
  · rfl
  · exact anew_len _
def midL (ls : List Nat) (i : Nat) : Nat := (labAt (readyL ls i) i + labAt (readyL ls i) (i + 1)) / 2
theorem step_pos {n : Nat} (h : n ≤ 200) (h0 : 0 < n) : 5 ≤ 1024 / n := by
  rw [Nat.le_div_iff_mul_le h0]
  omega
theorem Ok.anew {ms ls : List Nat} {gv : Nat} (o : Ok ms ls gv) : Ok ms (anewL ms.length) gv := by
  have hs := step_pos o.few o.pos
  have ht : ms.length * (1024 / ms.length) ≤ 1024 := Nat.mul_div_le 1024 ms.length
  refine ⟨anew_len _, o.pos, o.few, o.nd, o.lt, fun i j a b hij ha hb => ?_, fun i a ha => ?_⟩
  · have hj : j < ms.length := by
      by_cases z : j < ms.length
      · exact z
      · rw [List.getElem?_eq_none (by rw [anew_len]; omega)] at hb
        cases hb
    rw [anew_at (by omega)] at ha
    rw [anew_at hj] at hb
    have ea := Option.some.inj ha
    have eb := Option.some.inj hb
    rw [← ea, ← eb]
    exact Nat.mul_lt_mul_of_pos_right hij (by omega)
  · have hi : i < ms.length := by
      by_cases z : i < ms.length
      · exact z
      · rw [List.getElem?_eq_none (by rw [anew_len]; omega)] at ha
        cases ha
    rw [anew_at hi] at ha
    have ea := Option.some.inj ha
    rw [← ea]
    refine Nat.lt_of_lt_of_le (Nat.mul_lt_mul_of_pos_right hi (by omega)) ht
theorem Ok.gap_ready {ms ls : List Nat} {gv i : Nat} (o : Ok ms ls gv) (hi : i < ms.length) : gap (readyL ls i) i := by
  unfold readyL
  split
  · assumption
  · unfold gap
    have hs := step_pos o.few o.pos
    rw [o.len]
    by_cases e : i + 1 < ms.length
    · rw [labAt_in (anew_at hi), labAt_in (anew_at e), Nat.succ_mul]
      omega
    · have e2 : i + 1 = ms.length := by omega
      rw [labAt_in (anew_at hi), labAt_end (by rw [anew_len]; omega)]
      have ht : ms.length * (1024 / ms.length) ≤ 1024 := Nat.mul_div_le 1024 ms.length
      rw [← e2, Nat.succ_mul] at ht
      rw [← e2]
      rw [← e2] at hs
      omega
theorem Ok.ready {ms ls : List Nat} {gv i : Nat} (o : Ok ms ls gv) : Ok ms (readyL ls i) gv := by
  unfold readyL
  split
  · exact o
  · rw [o.len]
    exact o.anew
theorem Ok.put {ms ls : List Nat} {gv i : Nat} (o : Ok ms ls gv) (hi : i < ms.length) (few : ms.length < 200) : Ok (inl ms (i + 1) gv) (inl (readyL ls i) (i + 1) (midL ls i)) (gv + 1) := by
  have r := o.ready (i := i)
  have g := o.gap_ready hi
  have hl : (readyL ls i).length = ms.length := r.len
  unfold gap at g
  have hm : labAt (readyL ls i) i < midL ls i ∧ midL ls i < labAt (readyL ls i) (i + 1) := by
    unfold midL
    omega
  have hlo : ∀ (j a : Nat), j < i + 1 → (readyL ls i)[j]? = some a → a < midL ls i := fun j a hj ha => by
    by_cases e : j = i
    · rw [e] at ha
      rw [labAt_in ha] at hm
      exact hm.1
    · obtain ⟨b, hb⟩ : ∃ b, (readyL ls i)[i]? = some b := ⟨_, List.getElem?_eq_getElem (by omega)⟩
      have := r.inc j i a b (by omega) ha hb
      rw [labAt_in hb] at hm
      omega
  have hhi : ∀ (j a : Nat), i + 1 ≤ j → (readyL ls i)[j]? = some a → midL ls i < a := fun j a hj ha => by
    by_cases e : j = i + 1
    · rw [e] at ha
      rw [labAt_in ha] at hm
      exact hm.2
    · obtain ⟨b, hb⟩ : ∃ b, (readyL ls i)[i + 1]? = some b := ⟨_, List.getElem?_eq_getElem (by
        by_cases z : j < (readyL ls i).length
        · omega
        · rw [List.getElem?_eq_none (by omega)] at ha
          cases ha)⟩
      have := r.inc (i + 1) j b a (by omega) hb ha
      rw [labAt_in hb] at hm
      omega
  refine ⟨by rw [inl_len (by omega), inl_len (by omega), hl], by rw [inl_len (by omega)]; omega, by rw [inl_len (by omega)]; omega, fun j k m h1 h2 => ?_, fun j m h => ?_, fun j k a b hjk ha hb => ?_, fun j a ha => ?_⟩
  · rw [inl_at (by omega)] at h1 h2
    by_cases e1 : j < i + 1
    · rw [if_pos e1] at h1
      have l1 := o.lt _ _ h1
      by_cases e2 : k < i + 1
      · rw [if_pos e2] at h2
        exact o.nd _ _ _ h1 h2
      · rw [if_neg e2] at h2
        by_cases e3 : k = i + 1
        · rw [if_pos e3] at h2
          have := Option.some.inj h2
          omega
        · rw [if_neg e3] at h2
          have := o.nd _ _ _ h1 h2
          omega
    · rw [if_neg e1] at h1
      by_cases e4 : j = i + 1
      · rw [if_pos e4] at h1
        have e5 := Option.some.inj h1
        by_cases e2 : k < i + 1
        · rw [if_pos e2] at h2
          have := o.lt _ _ h2
          omega
        · rw [if_neg e2] at h2
          by_cases e3 : k = i + 1
          · omega
          · rw [if_neg e3] at h2
            have := o.lt _ _ h2
            omega
      · rw [if_neg e4] at h1
        have l1 := o.lt _ _ h1
        by_cases e2 : k < i + 1
        · rw [if_pos e2] at h2
          have := o.nd _ _ _ h1 h2
          omega
        · rw [if_neg e2] at h2
          by_cases e3 : k = i + 1
          · rw [if_pos e3] at h2
            have := Option.some.inj h2
            omega
          · rw [if_neg e3] at h2
            have := o.nd _ _ _ h1 h2
            omega
  · rw [inl_at (by omega)] at h
    split at h
    · have := o.lt _ _ h
      omega
    · split at h
      · have := Option.some.inj h
        omega
      · have := o.lt _ _ h
        omega
  · rw [inl_at (by omega)] at ha hb
    by_cases e1 : j < i + 1
    · rw [if_pos e1] at ha
      by_cases e2 : k < i + 1
      · rw [if_pos e2] at hb
        exact r.inc _ _ _ _ hjk ha hb
      · rw [if_neg e2] at hb
        by_cases e3 : k = i + 1
        · rw [if_pos e3] at hb
          have := Option.some.inj hb
          have := hlo _ _ e1 ha
          omega
        · rw [if_neg e3] at hb
          exact r.inc _ _ _ _ (by omega) ha hb
    · rw [if_neg e1] at ha
      rw [if_neg (by omega), if_neg (by omega)] at hb
      by_cases e4 : j = i + 1
      · rw [if_pos e4] at ha
        have := Option.some.inj ha
        have := hhi _ _ (by omega) hb
        omega
      · rw [if_neg e4] at ha
        exact r.inc _ _ _ _ (by omega) ha hb
  · rw [inl_at (by omega)] at ha
    have ht : midL ls i < 1024 := by
      by_cases z : i + 1 < (readyL ls i).length
      · have := r.top (i + 1) _ (List.getElem?_eq_getElem z)
        have e2 := labAt_in (List.getElem?_eq_getElem z)
        omega
      · rw [labAt_end (by omega : (readyL ls i).length ≤ i + 1)] at hm
        exact hm.2
    split at ha
    · exact r.top _ _ ha
    · split at ha
      · have := Option.some.inj ha
        omega
      · exact r.top _ _ ha
theorem er_at {α : Type} (l : List α) (k j : Nat) : (l.eraseIdx k)[j]? = if j < k then l[j]? else l[j + 1]? := by
  rw [List.getElem?_eraseIdx]
theorem er_len {α : Type} {l : List α} {k : Nat} (h : k < l.length) : (l.eraseIdx k).length = l.length - 1 := List.length_eraseIdx_of_lt h
theorem Ok.drop {ms ls : List Nat} {gv i : Nat} (o : Ok ms ls gv) (hi : i < ms.length) (h2 : 1 < ms.length) : Ok (ms.eraseIdx i) (ls.eraseIdx i) gv := by
  have hl := o.len
  refine ⟨by rw [er_len hi, er_len (by omega), hl], by rw [er_len hi]; omega, by rw [er_len hi]; have := o.few; omega, fun j k m h1 h2 => ?_, fun j m h => ?_, fun j k a b hjk ha hb => ?_, fun j a ha => ?_⟩
  · rw [er_at] at h1 h2
    split at h1
    · split at h2
      · exact o.nd _ _ _ h1 h2
      · have := o.nd _ _ _ h1 h2
        omega
    · split at h2
      · have := o.nd _ _ _ h1 h2
        omega
      · have := o.nd _ _ _ h1 h2
        omega
  · rw [er_at] at h
    split at h
    · exact o.lt _ _ h
    · exact o.lt _ _ h
  · rw [er_at] at ha hb
    split at ha
    · split at hb
      · exact o.inc _ _ _ _ hjk ha hb
      · exact o.inc _ _ _ _ (by omega) ha hb
    · rw [if_neg (by omega)] at hb
      exact o.inc _ _ _ _ (by omega) ha hb
  · rw [er_at] at ha
    split at ha
    · exact o.top _ _ ha
    · exact o.top _ _ ha
end K16
set_option maxHeartbeats 1000000
namespace K16
open PySem PySem.Spec PyProof.Rows L2 Gd
open C8 (clsBody Met pe_mt pe_mt0)
/-- the dict of labels -/
structure DictL (kvs : List (Key × V)) (ms ls : List Nat) (gv : Nat) : Prop where
  len : kvs.length ≤ gv
  few : gv ≤ 1000
  at_ : ∀ (i m l : Nat), ms[i]? = some m → ls[i]? = some l → valV kvs (Sum.inl (m : Int)) = some (num l)
  no : ∀ k : Nat, (∀ i : Nat, ms[i]? ≠ some k) → valV kvs (Sum.inl (k : Int)) = none
/-- an order at o, N all that is its own -/
structure OrdA (N : Addr → Prop) (H : Hp) (o C : Addr) (ms ls : List Nat) (gv ts : Nat) : Prop where
  ex : ∃ (dx m d : Addr) (fs : List (Str × V)) (kvs : List (Key × V)), H o = some (.ins C dx fs) ∧ fs.lookup ("_marks" : Str) = some (.ref m) ∧ fs.lookup ("_labels" : Str) = some (.ref d) ∧ fs.lookup ("_given" : Str) = some (num gv) ∧ fs.lookup ("_times" : Str) = some (num ts) ∧
    (∀ f, f ∉ fields → fs.lookup f = none) ∧ H m = some (.lst (ms.map num)) ∧ H d = some (.dK kvs) ∧ DictL kvs ms ls gv ∧ fs.length ≤ 100 ∧ N o ∧ N m ∧ N d
  ok : Ok ms ls gv
theorem OrdA.kp {N : Addr → Prop} {H H' : Hp} {o C : Addr} {ms ls : List Nat} {gv ts : Nat} (r : OrdA N H o C ms ls gv ts) (k : ∀ c u, N c → H c = some u → H' c = some u) : OrdA N H' o C ms ls gv ts := by
  obtain ⟨dx, m, d, fs, kvs, e1, l1, l2, l3, l4, nl, e2, e3, dc, lf, No, Nm, Nd⟩ := r.ex
  exact ⟨⟨dx, m, d, fs, kvs, k _ _ No e1, l1, l2, l3, l4, nl, k _ _ Nm e2, k _ _ Nd e3, dc, lf, No, Nm, Nd⟩, r.ok⟩
theorem OrdA.mono {N N' : Addr → Prop} {H : Hp} {o C : Addr} {ms ls : List Nat} {gv ts : Nat} (r : OrdA N H o C ms ls gv ts) (k : ∀ c, N c → N' c) : OrdA N' H o C ms ls gv ts := by
  obtain ⟨dx, m, d, fs, kvs, e1, l1, l2, l3, l4, nl, e2, e3, dc, lf, No, Nm, Nd⟩ := r.ex
  exact ⟨⟨dx, m, d, fs, kvs, e1, l1, l2, l3, l4, nl, e2, e3, dc, lf, k _ No, k _ Nm, k _ Nd⟩, r.ok⟩
theorem OrdA.cut {N : Addr → Prop} {H : Hp} {o C : Addr} {ms ls : List Nat} {gv ts : Nat} (r : OrdA N H o C ms ls gv ts) : OrdA (fun c => N c ∧ H c ≠ none) H o C ms ls gv ts := by
  obtain ⟨dx, m, d, fs, kvs, e1, l1, l2, l3, l4, nl, e2, e3, dc, lf, No, Nm, Nd⟩ := r.ex
  exact ⟨⟨dx, m, d, fs, kvs, e1, l1, l2, l3, l4, nl, e2, e3, dc, lf, ⟨No, fun z => by rw [e1] at z; cases z⟩, ⟨Nm, fun z => by rw [e2] at z; cases z⟩, ⟨Nd, fun z => by rw [e3] at z; cases z⟩⟩, r.ok⟩
theorem OrdA.ins {N : Addr → Prop} {H : Hp} {o C : Addr} {ms ls : List Nat} {gv ts : Nat} (r : OrdA N H o C ms ls gv ts) : ∃ dx fs, H o = some (.ins C dx fs) ∧ (∀ f, f ∉ fields → fs.lookup f = none) := by
  obtain ⟨dx, m, d, fs, kvs, e1, l1, l2, l3, l4, nl, e2, e3, dc, lf, No, Nm, Nd⟩ := r.ex
  exact ⟨dx, fs, e1, nl⟩
section
variable {P : Program} {w : World} {K : PySem.W.Frag} {mg : Str → Option Value} {base : Heap} {C : Addr}
structure MAt (K : PySem.W.Frag) (C : Addr) (m qual : Str) (st : Stmt) (ps : List Str) : Prop where
  ex : ∃ (f : Addr) (fd : FuncData), Fun K m qual st f fd ∧ Meth K C m f ∧ Binds K fd ps []
theorem MAt.met {m qual : Str} {st : Stmt} {N ps : List Str} {k : Nat} {sp : Sp} (M : MAt K C m qual st ps) (cl : Cls K C) (S : FnScope N ps (defScope st))
    (ar : ∀ vs H Q E, sp vs H Q E → vs.length = ps.length)
    (bd : ∀ (f : Addr) (cdv : Value) (A : Around) (outer : List Env) (s : Shared) (H : Hp) (vs : List V) (Q : VK) (E : XK), Room k (A.deeper (envOfC qual (defScope st) s.heap.objs.size f cdv)) → sp vs H Q E →
      ∃ t, PSs (cxOf CX0 P w K mg base N qual (defScope st) f cdv A outer s H E).nox (defBody st) t ∧ t { nx := fun _ H' => Q .non H', rt := Q } (start N vs) H) : Met P w K mg base (k + 1) C m sp [] := by
  obtain ⟨f, fd, F, me, b⟩ := M.ex
  exact ⟨f, fd, ps, [], cl, me, F.ok S ar (bd f), b, .nil⟩
def spWhI : Sp := fun vs H Q _ => ∃ n lo hi : Int, vs = [.int n, .int lo, .int hi] ∧ lo ≤ n ∧ n ≤ hi ∧ Q (.bl true) H
theorem ok_whI (T : Txt K mg) (D : DefAt K mg "is_whole" s_is_whole ["thing", "low", "high"]) : C8.Cal P w K mg base 1 "is_whole" spWhI [] := by
  obtain ⟨f, fd, F, m, b⟩ := D.ex
  refine ⟨f, fd, _, [], F.ok sc_is_whole (fun vs H Q E h => ?_) (fun cdv A outer s H vs Q E hr h => ?_), m, F.kp, b, .nil⟩
  · obtain ⟨n, lo, hi, rfl, _⟩ := h
    rfl
  · obtain ⟨n, lo, hi, rfl, h1, h2, q⟩ := h
    refine ⟨_, (pss_one (ps_ret (pe_and (pe_callB call_isi (by rfl) T.b_isinstance boot_isinstance_ (pa_cons (pv 0) (pa_cons (pe_bltn (v := .ty "int") (by rfl) T.t_int boot_int_ rfl) pa_nil))) (pe_and (pe_not (pe_callB call_isi (by rfl) T.b_isinstance boot_isinstance_ (pa_cons (pv 0) (pa_cons (pe_bltn (v := .ty "bool") (by rfl) T.t_bool boot_bool_ rfl) pa_nil)))) (pe_one (pe_chain op_le op_le (pv 1) (pv 0) (pv 2))))))), ?_⟩
    have ty := tyD (K := K) (H := H) (D1.dp (Dp.int n))
    refine ⟨_, rfl, .int n, .ty "int", _, .type "int", _, rfl, .ty _, ty, kInt (.int n), _, rfl, ?_⟩
    refine iteT ?_
    refine ⟨_, rfl, _, .ty "bool", _, .type "bool", _, rfl, .ty _, ty, kBool _, _, rfl, _, rfl, ?_⟩
    refine iteT ?_
    refine ⟨_, rfl, _, rfl, _, _, rfl, rfl, _, rfl, ?_⟩
    rw [decide_eq_true h1]
    refine iteT ⟨_, rfl, _, _, rfl, rfl, ?_⟩
    show Q (.bl (decide (n ≤ hi))) H
    rw [decide_eq_true h2]
    exact q
def spMany (C : Addr) : Sp := fun vs H Q _ => ∃ (N : Addr → Prop) (o : Addr) (ms ls : List Nat) (gv ts : Nat), vs = [.ref o] ∧ OrdA N H o C ms ls gv ts ∧ Q (num ms.length) H
theorem ok_many (T : Txt K mg) (OC : OrdC K C) (M : MAt K C "many" "Order.many" s_Order_many ["self"]) : Met P w K mg base 1 C "many" (spMany C) [] := by
  refine M.met OC.cl sc_Order_many (fun vs H Q E h => ?_) (fun f cdv A outer s H vs Q E hr h => ?_)
  · obtain ⟨N, o, ms, ls, gv, ts, rfl, _⟩ := h
    rfl
  · obtain ⟨N, o, ms, ls, gv, ts, rfl, r, q⟩ := h
    obtain ⟨dx, m, d, fs, kvs, e1, l1, l2, l3, l4, nl, e2, e3, dc, lf, No, Nm, Nd⟩ := r.ex
    refine ⟨_, (pss_one (ps_ret (pe_callB call_len (by rfl) T.b_len boot_len_ (pa_cons (pe_fld (pv 0) rfl) pa_nil)))), ?_⟩
    refine ⟨_, rfl, o, C, dx, fs, .ref m, rfl, e1, OC.cl, OC.n_marks, l1, .ref m, (ms.map num).length, rfl, .inl ⟨_, SqL.of e2, rfl⟩, ?_⟩
    rw [List.length_map]
    exact q
def spNeed (C : Addr) : Sp := fun vs H Q _ => ∃ (N : Addr → Prop) (o : Addr) (ms ls : List Nat) (gv ts i k : Nat), vs = [.ref o, num k] ∧ OrdA N H o C ms ls gv ts ∧ ms[i]? = some k ∧ Q .non H
theorem lab_of {ms ls : List Nat} {gv i k : Nat} (o : Ok ms ls gv) (h : ms[i]? = some k) : ∃ l, ls[i]? = some l := by
  have hi : i < ms.length := by
    by_cases z : i < ms.length
    · exact z
    · rw [List.getElem?_eq_none (by omega)] at h
      cases h
  exact ⟨_, List.getElem?_eq_getElem (by rw [o.len]; exact hi)⟩
theorem ok_need (T : Txt K mg) (OC : OrdC K C) (c_is_whole : C8.Cal P w K mg base 1 "is_whole" spWhI []) (M : MAt K C "_need_mark" "Order._need_mark" s_Order__need_mark ["self", "mark"]) : Met P w K mg base 2 C "_need_mark" (spNeed C) [] := by
  refine M.met OC.cl sc_Order__need_mark (fun vs H Q E h => ?_) (fun f cdv A outer s H vs Q E hr h => ?_)
  · obtain ⟨N, o, ms, ls, gv, ts, i, k, rfl, _⟩ := h
    rfl
  · obtain ⟨N, o, ms, ls, gv, ts, i, k, rfl, r, hk, q⟩ := h
    obtain ⟨dx, m, d, fs, kvs, e1, l1, l2, l3, l4, nl, e2, e3, dc, lf, No, Nm, Nd⟩ := r.ex
    obtain ⟨l, hl⟩ := lab_of r.ok hk
    have hkg := r.ok.lt _ _ hk
    refine ⟨_, (pss_one (ps_if (PW.pt (pw_or (pt_not (pt_val (C8.pe_c c_is_whole hr (by decide) (by rfl) (pa_cons (pv 1) (pa_cons pe_int (pa_cons (pe_op op_sub (pe_fld (pv 0) rfl) pe_int) pa_nil)))))) (pw_or1 (pt_cmp (pc_dnotin (hu_of hr) (pv 1) (pe_fld (pv 0) rfl))))))
          (pss_one ps_never) pss_nil)), ?_⟩
    refine ⟨_, rfl, _, rfl, o, C, dx, fs, num gv, rfl, e1, OC.cl, OC.n_given, l3, _, _, rfl, rfl, ?_⟩
    refine ⟨(k : Nat), 0, (gv : Int) - 1, rfl, by omega, by omega, _, rfl, iteF ?_⟩
    refine ⟨_, rfl, _, rfl, o, C, dx, fs, .ref d, rfl, e1, OC.cl, OC.n_labels, l2, d, _, rfl, DGet.k (k := Sum.inl (k : Int)) e3, _, rfl, ?_⟩
    rw [dc.at_ _ _ _ hk hl]
    exact iteF q
def spLabel (C : Addr) : Sp := fun vs H Q _ => ∃ (N : Addr → Prop) (o : Addr) (ms ls : List Nat) (gv ts i k l : Nat), vs = [.ref o, num k] ∧ OrdA N H o C ms ls gv ts ∧ ms[i]? = some k ∧ ls[i]? = some l ∧ Q (num l) H
theorem ok_label (T : Txt K mg) (OC : OrdC K C) (m__need_mark : Met P w K mg base 2 C "_need_mark" (spNeed C) []) (M : MAt K C "label" "Order.label" s_Order_label ["self", "mark"]) : Met P w K mg base 3 C "label" (spLabel C) [] := by
  refine M.met OC.cl sc_Order_label (fun vs H Q E h => ?_) (fun f cdv A outer s H vs Q E hr h => ?_)
  · obtain ⟨N, o, ms, ls, gv, ts, i, k, l, rfl, _⟩ := h
    rfl
  · obtain ⟨N, o, ms, ls, gv, ts, i, k, l, rfl, r, hk, hl, q⟩ := h
    obtain ⟨dx, m, d, fs, kvs, e1, l1, l2, l3, l4, nl, e2, e3, dc, lf, No, Nm, Nd⟩ := r.ex
    refine ⟨_, (pss_cons (ps_expr (pe_mt m__need_mark hr (by decide) (pv 0) (pa_cons (pv 1) pa_nil)))
      (pss_one (ps_ret (pe_dget (hu_of hr) (pe_fld (pv 0) rfl) (pv 1) (fun _ _ => rfl))))), ?_⟩
    refine ⟨_, rfl, o, dx, fs, rfl, e1, nl _ (by decide), _, rfl, N, o, ms, ls, gv, ts, i, k, rfl, r, hk, ?_⟩
    have dg := DGet.k (k := Sum.inl (k : Int)) e3
    rw [dc.at_ _ _ _ hk hl] at dg
    exact ⟨_, rfl, o, C, dx, fs, .ref d, rfl, e1, OC.cl, OC.n_labels, l2, _, rfl, d, _, rfl, dg, q⟩
def spLabAt (C : Addr) : Sp := fun vs H Q _ => ∃ (N : Addr → Prop) (o : Addr) (ms ls : List Nat) (gv ts i : Nat), vs = [.ref o, num i] ∧ OrdA N H o C ms ls gv ts ∧ i ≤ ms.length ∧ Q (num (labAt ls i)) H
theorem ok_labat (T : Txt K mg) (OC : OrdC K C) (m_many : Met P w K mg base 1 C "many" (spMany C) []) (M : MAt K C "_label_at" "Order._label_at" s_Order__label_at ["self", "at"]) : Met P w K mg base 2 C "_label_at" (spLabAt C) [] := by
  refine M.met OC.cl sc_Order__label_at (fun vs H Q E h => ?_) (fun f cdv A outer s H vs Q E hr h => ?_)
  · obtain ⟨N, o, ms, ls, gv, ts, i, rfl, _⟩ := h
    rfl
  · obtain ⟨N, o, ms, ls, gv, ts, i, rfl, r, hi, q⟩ := h
    obtain ⟨dx, m, d, fs, kvs, e1, l1, l2, l3, l4, nl, e2, e3, dc, lf, No, Nm, Nd⟩ := r.ex
    refine ⟨_, (pss_cons (ps_if (pt_cmpR op_eq (pv 1) (pe_mt0 m_many hr (by decide) (pv 0)) (nomark _))
          (pss_one (ps_ret (pe_gi rfl T.g_LABELS))) pss_nil)
      (pss_one (ps_ret (pe_dget (hu_of hr) (pe_fld (pv 0) rfl) (pe_ix ix_list (pe_fld (pv 0) rfl) (pv 1) (fun _ _ => rfl)) (fun _ _ => rfl))))), ?_⟩
    refine ⟨_, rfl, _, rfl, o, dx, fs, rfl, e1, nl _ (by decide), N, o, ms, ls, gv, ts, rfl, r, rfl, _, rfl, ite2 (fun e => ?_) (fun e => ?_)⟩
    · have e2 : i = ms.length := by
        have := V.int.inj (of_decide_eq_true e)
        omega
      rw [labAt_end (by rw [r.ok.len]; omega)] at q
      exact q
    · have hlt : i < ms.length := by
        by_cases z : i = ms.length
        · exact absurd (decide_eq_true (by rw [z])) e
        · omega
      obtain ⟨k, hk⟩ : ∃ k, ms[i]? = some k := ⟨_, List.getElem?_eq_getElem hlt⟩
      obtain ⟨l, hl⟩ := lab_of r.ok hk
      rw [labAt_in hl] at q
      have hat : atI (ms.map num) ((i : Nat) : Int) = some (num k) := by
        refine atI_nat ?_
        rw [List.getElem?_map, hk]
        rfl
      have dg := DGet.k (k := Sum.inl (k : Int)) e3
      rw [dc.at_ _ _ _ hk hl] at dg
      exact ⟨_, rfl, o, C, dx, fs, .ref d, rfl, e1, OC.cl, OC.n_labels, l2, _, rfl, o, C, dx, fs, .ref m, rfl, e1, OC.cl, OC.n_marks, l1, _, rfl, m, _, _, _, rfl, rfl, SqL.of e2, hat, d, _, rfl, dg, q⟩
def spMarks (C : Addr) : Sp := fun vs H Q _ => ∃ (N : Addr → Prop) (o : Addr) (ms ls : List Nat) (gv ts : Nat), vs = [.ref o] ∧ OrdA N H o C ms ls gv ts ∧ ∀ (p : Addr) (H' : Hp), H p = none → Same H H' → H' p = some (.lst (ms.map num)) → Q (.ref p) H'
theorem ok_marks (T : Txt K mg) (OC : OrdC K C) (M : MAt K C "marks" "Order.marks" s_Order_marks ["self"]) : Met P w K mg base 1 C "marks" (spMarks C) [] := by
  refine M.met OC.cl sc_Order_marks (fun vs H Q E h => ?_) (fun f cdv A outer s H vs Q E hr h => ?_)
  · obtain ⟨N, o, ms, ls, gv, ts, rfl, _⟩ := h
    rfl
  · obtain ⟨N, o, ms, ls, gv, ts, rfl, r, q⟩ := h
    obtain ⟨dx, m, d, fs, kvs, e1, l1, l2, l3, l4, nl, e2, e3, dc, lf, No, Nm, Nd⟩ := r.ex
    refine ⟨_, (pss_one (ps_ret (pe_callTy call_list_of (by rfl) T.t_list boot_list_ (pa_cons (pe_fld (pv 0) rfl) pa_nil)))), ?_⟩
    exact ⟨_, rfl, o, C, dx, fs, .ref m, rfl, e1, OC.cl, OC.n_marks, l1, m, _, rfl, .inl (SqL.of e2), fun p hp => q p _ hp (same_new hp) upd_same⟩
end
end K16
set_option maxHeartbeats 1000000
namespace K16
open PySem PySem.Spec PyProof.Rows L2 Gd
open C8 (clsBody Met pe_mt pe_mt0)
theorem valV_drop {κ : Type} [DecidableEq κ] (k j : κ) : ∀ kvs : List (κ × V), valV (dropK kvs k) j = if j = k then none else valV kvs j
  | [] => by
    split
    · exact valV_nil
    · rfl
  | p :: r => by
    by_cases e : p.1 = k
    · rw [dropK_pos e, valV_drop k j r]
      by_cases e2 : j = k
      · rw [if_pos e2, if_pos e2]
      · rw [if_neg e2, if_neg e2, valV_neg (fun z => e2 (z.symm.trans e))]
    · rw [dropK_neg e]
      by_cases e3 : p.1 = j
      · rw [valV_pos e3, if_neg (fun z => e (e3.trans z)), valV_pos e3]
      · rw [valV_neg e3, valV_drop k j r, valV_neg e3]
theorem putK_old {κ : Type} [DecidableEq κ] {kvs : List (κ × V)} {k : κ} {v x : V} (h : valV kvs k = some x) : (putK kvs k v).length = kvs.length := by
  unfold putK
  rw [if_pos (by rw [valV_any, h]; rfl), List.length_map]
theorem num_inj {x y : Nat} (h : num x = num y) : x = y := by
  have := V.int.inj h
  omega
theorem key_ne {a b : Nat} (h : a ≠ b) : ¬ (Sum.inl (a : Int) : Key) = Sum.inl (b : Int) := fun z => h (by have := Sum.inl.inj z; omega)
theorem flat_nums (xs : List Nat) : (xs.map num).all flatV = true := by
  rw [List.all_eq_true]
  intro v hv
  obtain ⟨x, _, rfl⟩ := List.mem_map.mp hv
  rfl
section
variable {P : Program} {w : World} {K : PySem.W.Frag} {mg : Str → Option Value} {base : Heap} {C : Addr}
/-- labelled anew up to the j-th -/
def partL (n : Nat) (ls : List Nat) (j : Nat) : List Nat := (anewL n).take j ++ ls.drop j
theorem part_at {n j i : Nat} {ls : List Nat} (hl : ls.length = n) (hj : j ≤ n) : (partL n ls j)[i]? = if i < j then (anewL n)[i]? else ls[i]? := by
  unfold partL
  have h1 : ((anewL n).take j).length = j := by rw [List.length_take, anew_len]; omega
  by_cases e : i < j
  · rw [if_pos e, List.getElem?_append_left (by omega), List.getElem?_take, if_pos e]
  · rw [if_neg e, List.getElem?_append_right (by omega), h1, List.getElem?_drop]
    congr 1
    omega
def spAnew (C : Addr) : Sp := fun vs H Q _ => ∃ (N : Addr → Prop) (o : Addr) (ms ls : List Nat) (gv ts : Nat), vs = [.ref o] ∧ OrdA N H o C ms ls gv ts ∧
  ∀ H' : Hp, OrdA N H' o C ms (anewL ms.length) gv (ts + 1) → (∀ c u, ¬ N c → H c = some u → H' c = some u) → Q .non H'
theorem ok_anew (T : Txt K mg) (OC : OrdC K C) (m_many : Met P w K mg base 1 C "many" (spMany C) []) (M : MAt K C "_label_anew" "Order._label_anew" s_Order__label_anew ["self"]) : Met P w K mg base 2 C "_label_anew" (spAnew C) [] := by
  refine M.met OC.cl sc_Order__label_anew (fun vs H Q E h => ?_) (fun f cdv A outer s H vs Q E hr h => ?_)
  · obtain ⟨N, o, ms, ls, gv, ts, rfl, _⟩ := h
    rfl
  · obtain ⟨N, o, ms, ls, gv, ts, rfl, r, q⟩ := h
    obtain ⟨dx, m, d, fs, kvs, e1, l1, l2, l3, l4, nl, e2, e3, dc, lf, No, Nm, Nd⟩ := r.ex
    have hpos := r.ok.pos
    have hfew := r.ok.few
    have hol := r.ok.len
    refine ⟨_, (pss_cons (ps_set (i := 1) sc_Order__label_anew.nd rfl (Or.inl rfl) (pe_op op_fdiv (pe_gi rfl T.g_LABELS) (pe_mt0 m_many hr (by decide) (pv 0))))
      (pss_cons (ps_for PassesOwn.never rfl (pi_enum (by rfl) T.b_enumerate (pa_cons (pe_fld (pv 0) rfl) pa_nil)) (pg_tup (by rfl) (pgs_cons (pg_name (i := 2) sc_Order__label_anew.nd rfl (Or.inl rfl)) (pgs_cons (pg_name (i := 3) sc_Order__label_anew.nd rfl (Or.inl rfl)) pgs_nil)))
          (pss_one (ps_dput (hu_of hr) (pe_fld (pv 0) rfl) (pv 3) (pe_op op_mul (pv 2) (pv 1)) rfl)))
      (pss_one (ps_fldaug (pv 0) pe_int in_add)))), ?_⟩
    refine ⟨_, rfl, o, dx, fs, rfl, e1, nl _ (by decide), N, o, ms, ls, gv, ts, rfl, r, _, _, rfl, rfl, ⟨by omega, by omega⟩, ?_⟩
    have es : ((1024 : Int) / ((ms.length : Nat) : Int)) = ((1024 / ms.length : Nat) : Int) := by norm_cast
    refine ⟨_, rfl, o, C, dx, fs, .ref m, rfl, e1, OC.cl, OC.n_marks, l1, m, _, rfl, SqL.of e2, ?_⟩
    have om : o ≠ m := fun e => by rw [e, e2] at e1; cases e1
    have od : o ≠ d := fun e => by rw [e, e3] at e1; cases e1
    have md : m ≠ d := fun e => by rw [e, e3] at e2; cases e2
    refine for_it (walk_enum (K := K) (a := m) (xs := ms.map num)) (fun j σ H' => (∀ c u, c ≠ d → H c = some u → H' c = some u) ∧ (∃ kvs, H' d = some (.dK kvs) ∧ DictL kvs ms (partL ms.length ls j) gv) ∧ ∃ y2 y3 : Option V, σ = [some (.ref o), some (num (1024 / ms.length)), y2, y3])
      ⟨fun _ _ _ z => z, ⟨kvs, e3, dc⟩, none, none, ?_⟩ (fun j σ H' _ hP => SqL.of (hP.1 _ _ md e2)) (fun j x σ H1 H2 hj hP hY => ?_) (fun σ H1 hP => ?_)
    · show [some (V.ref o), some (V.int ((1024 : Int) / ((ms.length : Nat) : Int))), none, none] = _
      rw [es]
      rfl
    · obtain ⟨kp, ⟨kv, hd, dk⟩, y2, y3, rfl⟩ := hP
      obtain ⟨Tp, u, v, rfl, hT, rfl, hu, hv⟩ := hY
      rw [List.length_map] at hj
      replace hu : some (V.int (j : Nat)) = some u := hu
      replace hv : (ms.map num)[j]? = some v := hv
      cases (Option.some.inj hu)
      rw [List.getElem?_map] at hv
      obtain ⟨k, hk⟩ : ∃ k, ms[j]? = some k := ⟨_, List.getElem?_eq_getElem hj⟩
      rw [hk] at hv
      cases (show some (num k) = some v from hv)
      refine ⟨Tp, _, rfl, SqT.of upd_same, rfl, _, _, rfl, _, _, rfl, rfl, ?_⟩
      have hd2 := kep (u := .tup [V.int (j : Nat), num k]) hd hT
      have kp2 : ∀ c u, c ≠ d → H c = some u → (upd H1 Tp (.tup [V.int (j : Nat), num k])) c = some u := fun c u hc z => kep (kp c u hc z) hT
      generalize upd H1 Tp (.tup [V.int (j : Nat), num k]) = H3 at *
      obtain ⟨l, hl⟩ := lab_of r.ok hk
      have hold : valV kv (Sum.inl (k : Int)) = some (num l) := dk.at_ _ _ _ hk (by rw [part_at hol (by omega), if_neg (by omega)]; exact hl)
      refine ⟨_, rfl, _, rfl, _, _, rfl, rfl, .inl ⟨by omega, by omega⟩, ?_⟩
      refine ⟨_, rfl, o, C, dx, fs, .ref d, rfl, kp2 _ _ od e1, OC.cl, OC.n_labels, l2, _, rfl, d, _, rfl, DPut.k (k := Sum.inl (k : Int)) hd2 (small1000 (by have := dk.len; have := dk.few; omega)), fun c u hc z => ?_, ⟨_, upd_same, ?_, dk.few, fun i mm ll h1 h2 => ?_, fun kk hkk => ?_⟩, _, _, rfl⟩
      · rw [upd_ne hc]
        exact kp2 c u hc z
      · rw [putK_old hold]
        exact dk.len
      · rw [valV_put]
        rw [part_at hol (by omega)] at h2
        by_cases e : mm = k
        · subst e
          have eij := r.ok.nd _ _ _ h1 hk
          subst eij
          rw [if_pos (by omega), anew_at hj] at h2
          rw [if_pos rfl, ← Option.some.inj h2]
          show some (V.int _) = some (V.int _)
          congr 2
        · rw [if_neg (key_ne e)]
          refine dk.at_ _ _ _ h1 ?_
          rw [part_at hol (by omega)]
          have hij : i ≠ j := fun z => e (by rw [z, hk] at h1; exact (Option.some.inj h1).symm)
          by_cases z : i < j
          · rw [if_pos z]
            rw [if_pos (by omega)] at h2
            exact h2
          · rw [if_neg z]
            rw [if_neg (by omega)] at h2
            exact h2
      · rw [valV_put, if_neg (key_ne fun z => hkk j (by rw [hk, z]))]
        exact dk.no kk hkk
    · obtain ⟨kp, ⟨kv, hd, dk⟩, y2, y3, rfl⟩ := hP
      have hpart : partL ms.length ls (ms.map num).length = anewL ms.length := by
        unfold partL
        rw [List.length_map, List.take_of_length_le (by rw [anew_len]; omega), List.drop_eq_nil_of_le (by omega), List.append_nil]
      rw [hpart] at dk
      refine ⟨_, rfl, o, C, dx, fs, num ts, rfl, kp _ _ od e1, OC.cl, OC.n_times, l4, _, _, rfl, rfl, dx, fs, kp _ _ od e1, by omega, ?_⟩
      have hlen := putF_len (v := .int ((ts : Int) + 1)) l4
      refine q _ ⟨⟨dx, m, d, _, kv, upd_same, ?_, ?_, ?_, ?_, fun g hg => ?_, ?_, ?_, dk, by omega, No, Nm, Nd⟩, r.ok.anew⟩ fun c u hc z => ?_
      · rw [lookup_putF, if_neg (by decide)]
        exact l1
      · rw [lookup_putF, if_neg (by decide)]
        exact l2
      · rw [lookup_putF, if_neg (by decide)]
        exact l3
      · rw [lookup_putF, if_pos rfl]
        rfl
      · rw [lookup_putF, if_neg (fun z => hg (by rw [z]; decide))]
        exact nl g hg
      · rw [upd_ne om.symm]
        exact kp _ _ md e2
      · rw [upd_ne od.symm]
        exact hd
      · rw [upd_ne (fun e : c = o => hc (by rw [e]; exact No))]
        exact kp _ _ (fun e : c = d => hc (by rw [e]; exact Nd)) z
/-- how often all were labelled anew, behind a mark put behind the i-th -/
def readyT (ls : List Nat) (i ts : Nat) : Nat := if gap ls i then ts else ts + 1
def spBehind (C : Addr) : Sp := fun vs H Q _ => ∃ (N : Addr → Prop) (o : Addr) (ms ls : List Nat) (gv ts i k : Nat), vs = [.ref o, num k] ∧ OrdA N H o C ms ls gv ts ∧ ms[i]? = some k ∧ ms.length < 200 ∧ gv < 1000 ∧
  ∀ H' : Hp, OrdA N H' o C (inl ms (i + 1) gv) (inl (readyL ls i) (i + 1) (midL ls i)) (gv + 1) (readyT ls i ts) → (∀ c u, ¬ N c → H c = some u → H' c = some u) → Q (num gv) H'
theorem ok_behind (T : Txt K mg) (OC : OrdC K C) (m_many : Met P w K mg base 1 C "many" (spMany C) []) (m__need_mark : Met P w K mg base 2 C "_need_mark" (spNeed C) []) (m__label_at : Met P w K mg base 2 C "_label_at" (spLabAt C) []) (m__label_anew : Met P w K mg base 2 C "_label_anew" (spAnew C) [])
    (M : MAt K C "behind" "Order.behind" s_Order_behind ["self", "mark"]) : Met P w K mg base 3 C "behind" (spBehind C) [] := by
  refine M.met OC.cl sc_Order_behind (fun vs H Q E h => ?_) (fun f cdv A outer s H vs Q E hr h => ?_)
  · obtain ⟨N, o, ms, ls, gv, ts, i, k, rfl, _⟩ := h
    rfl
  · obtain ⟨N, o, ms, ls, gv, ts, i, k, rfl, r, hk, few, hgv, q⟩ := h
    obtain ⟨dx, m, d, fs, kvs, e1, l1, l2, l3, l4, nl, e2, e3, dc, lf, No, Nm, Nd⟩ := r.ex
    have hi : i < ms.length := by
      by_cases z : i < ms.length
      · exact z
      · rw [List.getElem?_eq_none (by omega)] at hk
        cases hk
    have hol := r.ok.len
    refine ⟨_, (pss_cons (ps_expr (pe_mt m__need_mark hr (by decide) (pv 0) (pa_cons (pv 1) pa_nil)))
      (pss_cons (ps_if (pt_cmpR op_ge (pe_mt0 m_many hr (by decide) (pv 0)) (pe_gi rfl T.g_MOST_MARKS) (nomark _))
          (pss_one ps_never) pss_nil)
      (pss_cons (ps_set (i := 2) sc_Order_behind.nd rfl (Or.inl rfl) (pe_bm PySem.F.plainAttrs_list PySem.F.slot_list_index PySem.F.type_list_index mt_index (pe_fld (pv 0) rfl) (pa_cons (pv 1) pa_nil)))
      (pss_cons (ps_if (pt_cmpR op_lt (pe_op op_sub (pe_mt m__label_at hr (by decide) (pv 0) (pa_cons (pe_op op_add (pv 2) pe_int) pa_nil)) (pe_mt m__label_at hr (by decide) (pv 0) (pa_cons (pv 2) pa_nil))) pe_int (nomark _))
          (pss_one (ps_expr (pe_mt0 m__label_anew hr (by decide) (pv 0)))) pss_nil)
      (pss_cons (ps_set (i := 3) sc_Order_behind.nd rfl (Or.inl rfl) (pe_fld (pv 0) rfl))
      (pss_cons (ps_fldaug (pv 0) pe_int in_add)
      (pss_cons (ps_dput (hu_of hr) (pe_fld (pv 0) rfl) (pv 3) (pe_op op_fdiv (pe_op op_add (pe_mt m__label_at hr (by decide) (pv 0) (pa_cons (pv 2) pa_nil)) (pe_mt m__label_at hr (by decide) (pv 0) (pa_cons (pe_op op_add (pv 2) pe_int) pa_nil))) pe_int) rfl)
      (pss_cons (ps_expr (pe_bm PySem.F.plainAttrs_list PySem.F.slot_list_insert PySem.F.type_list_insert mt_insert (pe_fld (pv 0) rfl) (pa_cons (pe_op op_add (pv 2) pe_int) (pa_cons (pv 3) pa_nil))))
      (pss_one (ps_ret (pv 3))))))))))), ?_⟩
    refine ⟨_, rfl, o, dx, fs, rfl, e1, nl _ (by decide), _, rfl, N, o, ms, ls, gv, ts, i, k, rfl, r, hk, ?_⟩
    refine ⟨_, rfl, o, dx, fs, rfl, e1, nl _ (by decide), N, o, ms, ls, gv, ts, rfl, r, _, _, rfl, rfl, _, rfl, ?_⟩
    rw [decide_eq_false (by omega : ¬ ((200 : Int) ≤ ((ms.length : Nat) : Int)))]
    refine iteF ?_
    refine ⟨_, rfl, o, C, dx, fs, .ref m, rfl, e1, OC.cl, OC.n_marks, l1, .inl ⟨rfl, _, SqL.of e2⟩, _, rfl, m, _, num k, i, num k, rfl, rfl, SqL.of e2, rfl, flat_nums _, ?_, by simp [eqV, num], fun mm z hm hz => ?_, ?_⟩
    · rw [List.getElem?_map, hk]
      rfl
    · rw [List.getElem?_map] at hz
      cases hx : ms[mm]? with
      | none =>
        rw [hx] at hz
        cases hz
      | some x =>
        rw [hx] at hz
        cases (show some (num x) = some z from hz)
        have hne : x ≠ k := fun e => by
          subst e
          have := r.ok.nd _ _ _ hx hk
          omega
        show eqV (.int (x : Nat)) (.int (k : Nat)) = false
        simp only [eqV, decide_eq_false_iff_not, beq_eq_false_iff_ne]
        intro z
        have z2 : (x : Int) = (k : Int) := by simpa using z
        exact hne (by omega)
    have ei : ((i : Nat) : Int) + 1 = ((i + 1 : Nat) : Int) := by omega
    have vi : [V.ref o, V.int (((i : Nat) : Int) + 1)] = [V.ref o, num (i + 1)] := by
      rw [ei]
      rfl
    refine ⟨_, rfl, o, dx, fs, rfl, e1, nl _ (by decide), _, rfl, _, _, rfl, rfl, N, o, ms, ls, gv, ts, i + 1, vi, r, by omega, ?_⟩
    refine ⟨_, rfl, o, dx, fs, rfl, e1, nl _ (by decide), _, rfl, N, o, ms, ls, gv, ts, i, rfl, r, by omega, _, _, rfl, rfl, _, _, rfl, rfl, _, rfl, ?_⟩
    refine ite2 (fun hlt => ?_) (fun hlt => ?_)
    focus
      have hg : ¬ gap ls i := fun z => by
        have := of_decide_eq_true hlt
        unfold gap at z
        omega
      refine ⟨_, rfl, o, dx, fs, rfl, e1, nl _ (by decide), N, o, ms, ls, gv, ts, rfl, r, fun H1 r1 k1 => ?_⟩
      have r2 : OrdA N H1 o C ms (readyL ls i) gv (readyT ls i ts) := by
        unfold readyL readyT
        rw [if_neg hg, if_neg hg, hol]
        exact r1
      clear r1 hlt hg
    rotate_left
    focus
      have hg : gap ls i := by
        by_cases z : gap ls i
        · exact z
        · refine absurd ?_ hlt
          unfold gap at z
          exact decide_eq_true (by omega)
      obtain ⟨H1, rfl⟩ : ∃ X, X = H := ⟨_, rfl⟩
      have k1 : ∀ c u, ¬ N c → H1 c = some u → H1 c = some u := fun _ _ _ z => z
      have r2 : OrdA N H1 o C ms (readyL ls i) gv (readyT ls i ts) := by
        unfold readyL readyT
        rw [if_pos hg, if_pos hg]
        exact r
      clear hlt hg
    all_goals
      have hmid : (((labAt (readyL ls i) i : Nat) : Int) + ((labAt (readyL ls i) (i + 1) : Nat) : Int)) / 2 = ((midL ls i : Nat) : Int) := by
        unfold midL
        norm_cast
      have ok2 := r.ok.put hi few
      have hrl := ready_len ls i
      clear e1 l1 l2 l3 l4 nl e2 e3 dc lf No Nm Nd
      obtain ⟨dx, m, d, fs, kvs, e1, l1, l2, l3, l4, nl, e2, e3, dc, lf, No, Nm, Nd⟩ := r2.ex
      refine ⟨_, rfl, o, C, dx, fs, num gv, rfl, e1, OC.cl, OC.n_given, l3, ?_⟩
      refine ⟨_, rfl, o, C, dx, fs, num gv, rfl, e1, OC.cl, OC.n_given, l3, _, _, rfl, rfl, dx, fs, e1, by omega, ?_⟩
      have om : o ≠ m := fun e => by rw [e, e2] at e1; cases e1
      have od : o ≠ d := fun e => by rw [e, e3] at e1; cases e1
      have md : m ≠ d := fun e => by rw [e, e3] at e2; cases e2
      have hlen := putF_len (v := .int ((gv : Int) + 1)) l3
      have k3 : ∀ c u, c ≠ o → H1 c = some u → (upd H1 o (.ins C dx (putF "_given" (.int ((gv : Int) + 1)) fs))) c = some u := fun c u hc z => by
        rw [upd_ne hc]
        exact z
      have o3 : (upd H1 o (.ins C dx (putF "_given" (.int ((gv : Int) + 1)) fs))) o = some (.ins C dx (putF "_given" (.int ((gv : Int) + 1)) fs)) := upd_same
      have q1 : (putF "_given" (.int ((gv : Int) + 1)) fs).lookup ("_marks" : Str) = some (.ref m) := by rw [lookup_putF, if_neg (by decide)]; exact l1
      have q2 : (putF "_given" (.int ((gv : Int) + 1)) fs).lookup ("_labels" : Str) = some (.ref d) := by rw [lookup_putF, if_neg (by decide)]; exact l2
      have q3 : (putF "_given" (.int ((gv : Int) + 1)) fs).lookup ("_given" : Str) = some (num (gv + 1)) := by rw [lookup_putF, if_pos rfl]; rfl
      have q4 : (putF "_given" (.int ((gv : Int) + 1)) fs).lookup ("_times" : Str) = some (num (readyT ls i ts)) := by rw [lookup_putF, if_neg (by decide)]; exact l4
      have ql : ∀ f, f ∉ fields → (putF "_given" (.int ((gv : Int) + 1)) fs).lookup f = none := fun g hg => by
        rw [lookup_putF, if_neg (fun z => hg (by rw [z]; decide))]
        exact nl g hg
      generalize putF "_given" (.int ((gv : Int) + 1)) fs = fs3 at *
      generalize upd H1 o (.ins C dx fs3) = H3 at *
      have e23 := k3 _ _ om.symm e2
      have e33 := k3 _ _ od.symm e3
      have dc3 : DictL kvs ms (readyL ls i) (gv + 1) := ⟨by have := dc.len; omega, by omega, dc.at_, dc.no⟩
      have ok3 : Ok ms (readyL ls i) (gv + 1) := ⟨r2.ok.len, r2.ok.pos, r2.ok.few, r2.ok.nd, fun a b z => by have := r2.ok.lt a b z; omega, r2.ok.inc, r2.ok.top⟩
      have r3 : OrdA N H3 o C ms (readyL ls i) (gv + 1) (readyT ls i ts) := ⟨⟨dx, m, d, fs3, kvs, o3, q1, q2, q3, q4, ql, e23, e33, dc3, by omega, No, Nm, Nd⟩, ok3⟩
      refine ⟨_, rfl, o, dx, fs3, rfl, o3, ql _ (by decide), _, rfl, N, o, ms, readyL ls i, gv + 1, readyT ls i ts, i, rfl, r3, by omega, ?_⟩
      refine ⟨_, rfl, o, dx, fs3, rfl, o3, ql _ (by decide), _, rfl, _, _, rfl, rfl, N, o, ms, readyL ls i, gv + 1, readyT ls i ts, i + 1, vi, r3, by omega, _, _, rfl, rfl, _, _, rfl, rfl, ⟨by omega, by omega⟩, ?_⟩
      refine ⟨_, rfl, o, C, dx, fs3, .ref d, rfl, o3, OC.cl, OC.n_labels, q2, _, rfl, d, _, rfl, DPut.k (k := Sum.inl (gv : Int)) e33 (small1000 (by have := dc.len; omega)), ?_⟩
      have hnew : valV kvs (Sum.inl (gv : Int)) = none := dc.no gv fun a z => by have := r.ok.lt a gv z; omega
      have vmid : V.int ((((labAt (readyL ls i) i : Nat) : Int) + ((labAt (readyL ls i) (i + 1) : Nat) : Int)) / 2) = num (midL ls i) := by
        rw [hmid]
        rfl
      have k4 : ∀ c u, c ≠ d → H3 c = some u → (upd H3 d (.dK (putK kvs (Sum.inl (gv : Int)) (V.int ((((labAt (readyL ls i) i : Nat) : Int) + ((labAt (readyL ls i) (i + 1) : Nat) : Int)) / 2))))) c = some u := fun c u hc z => by
        rw [upd_ne hc]
        exact z
      have d4 : (upd H3 d (.dK (putK kvs (Sum.inl (gv : Int)) (V.int ((((labAt (readyL ls i) i : Nat) : Int) + ((labAt (readyL ls i) (i + 1) : Nat) : Int)) / 2))))) d = some (.dK (putK kvs (Sum.inl (gv : Int)) (num (midL ls i)))) := by
        rw [upd_same, vmid]
      show _
      generalize upd H3 d (.dK (putK kvs (Sum.inl (gv : Int)) (V.int ((((labAt (readyL ls i) i : Nat) : Int) + ((labAt (readyL ls i) (i + 1) : Nat) : Int)) / 2)))) = H4 at *
      have o4 := k4 _ _ od o3
      have m4 := k4 _ _ md e23
      refine ⟨_, rfl, o, C, dx, fs3, .ref m, rfl, o4, OC.cl, OC.n_marks, q1, .inl ⟨rfl, _, SqL.of m4⟩, _, rfl, _, _, rfl, rfl, _, rfl, m, _, _, _, rfl, rfl, m4, small1000 (by rw [List.length_map]; omega), by omega, by omega, ?_⟩
      have em : (ms.map num).take (((i : Nat) : Int) + 1).toNat ++ [num gv] ++ (ms.map num).drop (((i : Nat) : Int) + 1).toNat = (inl ms (i + 1) gv).map num := by
        rw [inl_map, show (((i : Nat) : Int) + 1).toNat = i + 1 from by omega]
        rfl
      refine ⟨_, rfl, q _ ⟨⟨dx, m, d, fs3, putK kvs (Sum.inl (gv : Int)) (num (midL ls i)), ?_, q1, q2, q3, q4, ql, ?_, ?_, ⟨?_, by omega, fun a mm ll h1 h2 => ?_, fun kk hkk => ?_⟩, by omega, No, Nm, Nd⟩, ok2⟩ fun c u hc z => ?_⟩
      · rw [upd_ne om]
        exact o4
      · rw [upd_same, em]
      · rw [upd_ne md.symm]
        exact d4
      · have := length_putK kvs (Sum.inl (gv : Int)) (num (midL ls i))
        have := dc.len
        omega
      · rw [valV_put]
        rw [inl_at (by omega)] at h1
        rw [inl_at (by omega)] at h2
        by_cases e : a < i + 1
        · rw [if_pos e] at h1 h2
          have := r.ok.lt _ _ h1
          rw [if_neg (key_ne (by omega))]
          exact dc.at_ _ _ _ h1 h2
        · rw [if_neg e] at h1 h2
          by_cases e5 : a = i + 1
          · rw [if_pos e5] at h1 h2
            rw [← Option.some.inj h1, if_pos rfl, ← Option.some.inj h2]
          · rw [if_neg e5] at h1 h2
            have := r.ok.lt _ _ h1
            rw [if_neg (key_ne (by omega))]
            exact dc.at_ _ _ _ h1 h2
      · have hkg : kk ≠ gv := fun z => hkk (i + 1) (by rw [inl_at (by omega), if_neg (by omega), if_pos rfl, z])
        rw [valV_put, if_neg (key_ne hkg)]
        refine dc.no kk fun a z => ?_
        by_cases e : a < i + 1
        · exact hkk a (by rw [inl_at (by omega), if_pos e]; exact z)
        · exact hkk (a + 1) (by rw [inl_at (by omega), if_neg (by omega), if_neg (by omega)]; exact z)
      · have c1 : c ≠ o := fun e => hc (by rw [e]; exact No)
        have c2 : c ≠ d := fun e => hc (by rw [e]; exact Nd)
        have c3 : c ≠ m := fun e => hc (by rw [e]; exact Nm)
        rw [upd_ne c3]
        exact k4 _ _ c2 (k3 _ _ c1 (k1 c u hc z))
end
end K16
set_option maxHeartbeats 1000000
namespace K16
open PySem PySem.Spec PyProof.Rows L2 Gd
open C8 (clsBody Met pe_mt pe_mt0)
theorem er_map {α β : Type} (f : α → β) (l : List α) (k : Nat) : (l.map f).eraseIdx k = (l.eraseIdx k).map f := by
  apply List.ext_getElem?
  intro j
  rw [er_at, List.getElem?_map, List.getElem?_map, List.getElem?_map, er_at]
  split
  · rfl
  · rfl
theorem none_of' {H H' : Hp} {p : Addr} (sm : Same H H') (h : H' p = none) : H p = none := by
  cases z : H p with
  | none => rfl
  | some u =>
    have z2 := sm _ _ z
    rw [h] at z2
    cases z2
section
variable {P : Program} {w : World} {K : PySem.W.Frag} {mg : Str → Option Value} {base : Heap} {C : Addr}
def spInit (C : Addr) : Sp := fun vs H Q _ => ∃ (o dx : Addr), vs = [.ref o] ∧ H o = some (.ins C dx []) ∧
  ∀ (H' : Hp) (N' : Addr → Prop), OrdA N' H' o C [0] [0] 1 0 → (∀ c u, c ≠ o → H c = some u → H' c = some u) → (∀ c, N' c → c = o ∨ H c = none) → Q .non H'
theorem fn_init {f : Addr} {fd : FuncData} (T : Txt K mg) (OC : OrdC K C) (F : Fun K "__init__" "Order.__init__" s_Order___init__ f fd) : FnOk P w K mg base CX0 1 f fd ["self"] (spInit C) := by
  refine F.ok sc_Order___init__ (fun vs H Q E h => ?_) (fun cdv A outer s H vs Q E hr h => ?_)
  · obtain ⟨o, dx, rfl, _⟩ := h
    rfl
  · obtain ⟨o, dx, rfl, e1, q⟩ := h
    refine ⟨_, (pss_cons (ps_fld (pv 0) (pe_lst (pa_cons pe_int pa_nil)) rfl)
      (pss_cons (ps_fld (pv 0) (pe_disp (pps_cons pe_int pe_int pps_nil) (by rfl) (by rfl) (fun z => by cases z) (by decide)) rfl)
      (pss_cons (ps_fld (pv 0) pe_int rfl)
      (pss_one (ps_fld (pv 0) pe_int rfl))))), ?_⟩
    refine ⟨(by show 1 ≤ sizeLine; decide), fun m hm => ?_⟩
    have om : o ≠ m := fun e => by rw [← e, e1] at hm; cases hm
    refine ⟨_, rfl, o, C, dx, [], rfl, kep e1 hm, OC.cl, OC.n_marks, by decide, ?_⟩
    have k1 : ∀ c u, c ≠ o → H c = some u → (upd (upd H m (.lst [V.int 0])) o (.ins C dx (putF "_marks" (.ref m) []))) c = some u := fun c u h z => by
      rw [upd_ne h]
      exact kep z hm
    have n1 : ∀ c, (upd (upd H m (.lst [V.int 0])) o (.ins C dx (putF "_marks" (.ref m) []))) c = none → H c = none := fun c z => upd_none (upd_none z)
    have a1o : (upd (upd H m (.lst [V.int 0])) o (.ins C dx (putF "_marks" (.ref m) []))) o = some (.ins C dx (putF "_marks" (.ref m) [])) := upd_same
    have a1m : (upd (upd H m (.lst [V.int 0])) o (.ins C dx (putF "_marks" (.ref m) []))) m = some (.lst [V.int 0]) := by
      rw [upd_ne om.symm, upd_same]
    generalize upd (upd H m (.lst [V.int 0])) o (.ins C dx (putF "_marks" (.ref m) [])) = A1 at *
    intro d hd
    have odd : o ≠ d := fun e => by rw [← e, a1o] at hd; cases hd
    have mdd : m ≠ d := fun e => by rw [← e, a1m] at hd; cases hd
    refine ⟨upd_same, [(Sum.inl 0, .int 0)], rfl, by decide, ?_⟩
    have p1 : (putF "_marks" (.ref m) ([] : List (Str × V))).length ≤ 1 := length_putF _ _ _
    refine ⟨_, rfl, o, C, dx, _, rfl, ?_, OC.cl, OC.n_labels, Nat.lt_of_le_of_lt p1 (by decide), ?_⟩
    · rw [upd_ne odd, upd_ne odd]
      exact a1o
    have k2 : ∀ c u, c ≠ o → A1 c = some u → (upd (upd (upd A1 d (.dK [])) d (.dK (mergeK [] [((Sum.inl 0 : Key), V.int 0)]))) o (.ins C dx (putF "_labels" (.ref d) (putF "_marks" (.ref m) [])))) c = some u := fun c u h z => by
      rw [upd_ne h, upd_ne (ne_of_none z hd), upd_ne (ne_of_none z hd)]
      exact z
    have a2o : (upd (upd (upd A1 d (.dK [])) d (.dK (mergeK [] [((Sum.inl 0 : Key), V.int 0)]))) o (.ins C dx (putF "_labels" (.ref d) (putF "_marks" (.ref m) [])))) o = some (.ins C dx (putF "_labels" (.ref d) (putF "_marks" (.ref m) []))) := upd_same
    have a2d : (upd (upd (upd A1 d (.dK [])) d (.dK (mergeK [] [((Sum.inl 0 : Key), V.int 0)]))) o (.ins C dx (putF "_labels" (.ref d) (putF "_marks" (.ref m) [])))) d = some (.dK [((Sum.inl 0 : Key), V.int 0)]) := by
      rw [upd_ne odd.symm, upd_same]
      rfl
    have a2m := k2 _ _ om.symm a1m
    generalize upd (upd (upd A1 d (.dK [])) d (.dK (mergeK [] [((Sum.inl 0 : Key), V.int 0)]))) o (.ins C dx (putF "_labels" (.ref d) (putF "_marks" (.ref m) []))) = A2 at *
    have p2 : (putF "_labels" (.ref d) (putF "_marks" (.ref m) ([] : List (Str × V)))).length ≤ 2 := Nat.le_trans (length_putF _ _ _) (Nat.succ_le_succ p1)
    refine ⟨_, rfl, o, C, dx, _, rfl, a2o, OC.cl, OC.n_given, Nat.lt_of_le_of_lt p2 (by decide), ?_⟩
    have p3 : (putF "_given" (.int 1) (putF "_labels" (.ref d) (putF "_marks" (.ref m) ([] : List (Str × V))))).length ≤ 3 := Nat.le_trans (length_putF _ _ _) (Nat.succ_le_succ p2)
    refine ⟨_, rfl, o, C, dx, _, rfl, upd_same, OC.cl, OC.n_times, Nat.lt_of_le_of_lt p3 (by decide), ?_⟩
    have p4 : (putF "_times" (.int 0) (putF "_given" (.int 1) (putF "_labels" (.ref d) (putF "_marks" (.ref m) ([] : List (Str × V)))))).length ≤ 4 := Nat.le_trans (length_putF _ _ _) (Nat.succ_le_succ p3)
    refine q _ (fun c => c = o ∨ c = m ∨ c = d) ⟨⟨dx, m, d, _, [((Sum.inl 0 : Key), V.int 0)], upd_same, ?_, ?_, ?_, ?_, fun g hg => ?_, ?_, ?_, ⟨Nat.le_refl 1, by decide, fun a mm ll h1 h2 => ?_, fun kk hkk => ?_⟩, Nat.le_trans p4 (by decide), .inl rfl, .inr (.inl rfl), .inr (.inr rfl)⟩, ?_⟩ (fun c u hc z => ?_) fun c hc => ?_
    · rw [lookup_putF, if_neg (by decide), lookup_putF, if_neg (by decide), lookup_putF, if_neg (by decide), lookup_putF, if_pos rfl]
    · rw [lookup_putF, if_neg (by decide), lookup_putF, if_neg (by decide), lookup_putF, if_pos rfl]
    · rw [lookup_putF, if_neg (by decide), lookup_putF, if_pos rfl]
      rfl
    · rw [lookup_putF, if_pos rfl]
      rfl
    · have hm2 : g ≠ "_times" ∧ g ≠ "_given" ∧ g ≠ "_labels" ∧ g ≠ "_marks" := ⟨fun e => hg (by rw [e]; decide), fun e => hg (by rw [e]; decide), fun e => hg (by rw [e]; decide), fun e => hg (by rw [e]; decide)⟩
      rw [lookup_putF, if_neg hm2.1, lookup_putF, if_neg hm2.2.1, lookup_putF, if_neg hm2.2.2.1, lookup_putF, if_neg hm2.2.2.2]
      rfl
    · rw [upd_ne om.symm, upd_ne om.symm]
      exact a2m
    · rw [upd_ne odd.symm, upd_ne odd.symm]
      exact a2d
    · cases a with
      | zero =>
        cases (show some 0 = some mm from h1)
        cases (show some 0 = some ll from h2)
        exact valV_pos rfl
      | succ a => cases h1
    · have hk0 : kk ≠ 0 := fun z => hkk 0 (by rw [z]; rfl)
      rw [valV_neg (fun z => key_ne (a := 0) (b := kk) (fun y => hk0 y.symm) z)]
      rfl
    · refine ⟨rfl, Nat.succ_pos 0, by decide, fun a b x h1 h2 => ?_, fun a x h1 => ?_, fun a b x y hab h1 h2 => ?_, fun a x h1 => ?_⟩
      · cases a with
        | zero =>
          cases b with
          | zero => rfl
          | succ b => cases h2
        | succ a => cases h1
      · cases a with
        | zero =>
          cases (show some 0 = some x from h1)
          decide
        | succ a => cases h1
      · cases b with
        | zero => omega
        | succ b => cases h2
      · cases a with
        | zero =>
          cases (show some 0 = some x from h1)
          decide
        | succ a => cases h1
    · rw [upd_ne hc, upd_ne hc]
      exact k2 _ _ hc (k1 _ _ hc z)
    · rcases hc with rfl | rfl | rfl
      · exact .inl rfl
      · exact .inr hm
      · exact .inr (n1 _ hd)
def spCopied (C : Addr) : Sp := fun vs H Q _ => ∃ (N : Addr → Prop) (o : Addr) (ms ls : List Nat) (gv ts : Nat), vs = [.ref o] ∧ OrdA N H o C ms ls gv ts ∧
  ∀ (u : Addr) (H' : Hp) (N' : Addr → Prop), H u = none → OrdA N' H' u C ms ls gv ts → (∀ c, N' c → H c = none) → Same H H' → Q (.ref u) H'
theorem ok_copied {fO : Addr} {fdO : FuncData} (T : Txt K mg) (OC : OrdC K C) (cO : mg "Order" = some (.ref C)) (M_Order : Mk K C fO) (B_Order : Binds K fdO ["self"] []) (G_Order : FnOk P w K mg base CX0 1 fO fdO ["self"] (spInit C))
    (M : MAt K C "copied" "Order.copied" s_Order_copied ["self"]) : Met P w K mg base 3 C "copied" (spCopied C) [] := by
  refine M.met OC.cl sc_Order_copied (fun vs H Q E h => ?_) (fun f cdv A outer s H vs Q E hr h => ?_)
  · obtain ⟨N, o, ms, ls, gv, ts, rfl, _⟩ := h
    rfl
  · obtain ⟨N, o, ms, ls, gv, ts, rfl, r, q⟩ := h
    obtain ⟨dx, m, d, fs, kvs, e1, l1, l2, l3, l4, nl, e2, e3, dc, lf, No, Nm, Nd⟩ := r.ex
    refine ⟨_, (pss_cons (ps_set (i := 1) sc_Order_copied.nd rfl (Or.inl rfl) (pe_make0 M_Order G_Order (hr.mono (by decide)) rfl cO B_Order .nil pass0))
      (pss_cons (ps_fld (pv 1) (pe_callTy call_list_of (by rfl) T.t_list boot_list_ (pa_cons (pe_fld (pv 0) rfl) pa_nil)) rfl)
      (pss_cons (ps_fld (pv 1) (pe_callTy call_dictD (by rfl) T.t_dict boot_dict_ (pa_cons (pe_fld (pv 0) rfl) pa_nil)) rfl)
      (pss_cons (ps_fld (pv 1) (pe_fld (pv 0) rfl) rfl)
      (pss_cons (ps_fld (pv 1) (pe_fld (pv 0) rfl) rfl)
      (pss_one (ps_ret (pv 1)))))))), ?_⟩
    intro u du n1 n2 ne
    refine ⟨u, du, rfl, upd_same, fun H1 N1 r1 k1 f1 => ⟨rfl, ?_⟩⟩
    have sm : Same H H1 := fun c x z => k1 c x (ne_of_none z n1) (by rw [upd_ne (ne_of_none z n1), upd_ne (ne_of_none z n2)]; exact z)
    obtain ⟨dy, m1, d1, gs, kv1, y1, z1, z2, z3, z4, zl, y2, y3, dc1, lg, No1, Nm1, Nd1⟩ := r1.ex
    refine ⟨_, rfl, o, C, dx, fs, .ref m, rfl, sm _ _ e1, OC.cl, OC.n_marks, l1, m, _, rfl, .inl (SqL.of (sm _ _ e2)), fun p hp => ?_⟩
    have pu : p ≠ u := fun e => by rw [e, y1] at hp; cases hp
    refine ⟨_, rfl, u, C, dy, gs, rfl, kep y1 hp, OC.cl, OC.n_marks, by omega, ?_⟩
    have g1 := putF_len (v := .ref p) z1
    have sm2 : Same H (upd (upd H1 p (.lst (ms.map num))) u (.ins C dy (putF "_marks" (.ref p) gs))) := fun c x z => by
      rw [upd_ne (ne_of_none z n1)]
      exact kep (sm _ _ z) hp
    have a2u : (upd (upd H1 p (.lst (ms.map num))) u (.ins C dy (putF "_marks" (.ref p) gs))) u = some (.ins C dy (putF "_marks" (.ref p) gs)) := upd_same
    have a2p : (upd (upd H1 p (.lst (ms.map num))) u (.ins C dy (putF "_marks" (.ref p) gs))) p = some (.lst (ms.map num)) := by
      rw [upd_ne pu, upd_same]
    have w1 : (putF "_marks" (.ref p) gs).lookup ("_marks" : Str) = some (.ref p) := by rw [lookup_putF, if_pos rfl]
    have w2 : (putF "_marks" (.ref p) gs).lookup ("_labels" : Str) = some (.ref d1) := by rw [lookup_putF, if_neg (by decide)]; exact z2
    have w3 : (putF "_marks" (.ref p) gs).lookup ("_given" : Str) = some (num 1) := by rw [lookup_putF, if_neg (by decide)]; exact z3
    have w4 : (putF "_marks" (.ref p) gs).lookup ("_times" : Str) = some (num 0) := by rw [lookup_putF, if_neg (by decide)]; exact z4
    have wl : ∀ f, f ∉ fields → (putF "_marks" (.ref p) gs).lookup f = none := fun g hg => by
      rw [lookup_putF, if_neg (fun z => hg (by rw [z]; decide))]
      exact zl g hg
    have np : H p = none := none_of' sm hp
    generalize putF "_marks" (.ref p) gs = g2 at *
    generalize upd (upd H1 p (.lst (ms.map num))) u (.ins C dy g2) = A2 at *
    clear y1 y2 y3 z1 z2 z3 z4 zl dc1 k1 r1 Nm1 Nd1 No1
    refine ⟨_, rfl, o, C, dx, fs, .ref d, rfl, sm2 _ _ e1, OC.cl, OC.n_labels, l2, d, kvs, rfl, .inl (sm2 _ _ e3), fun p2 hp2 => ?_⟩
    have p2u : p2 ≠ u := fun e => by rw [e, a2u] at hp2; cases hp2
    have p2p : p ≠ p2 := fun e => by rw [← e, a2p] at hp2; cases hp2
    refine ⟨_, rfl, u, C, dy, g2, rfl, kep a2u hp2, OC.cl, OC.n_labels, by omega, ?_⟩
    have g3l := putF_len (v := .ref p2) w2
    have sm3 : Same H (upd (upd A2 p2 (.dK kvs)) u (.ins C dy (putF "_labels" (.ref p2) g2))) := fun c x z => by
      rw [upd_ne (ne_of_none z n1)]
      exact kep (sm2 _ _ z) hp2
    have a3u : (upd (upd A2 p2 (.dK kvs)) u (.ins C dy (putF "_labels" (.ref p2) g2))) u = some (.ins C dy (putF "_labels" (.ref p2) g2)) := upd_same
    have a3p : (upd (upd A2 p2 (.dK kvs)) u (.ins C dy (putF "_labels" (.ref p2) g2))) p = some (.lst (ms.map num)) := by
      rw [upd_ne pu]
      exact kep a2p hp2
    have a3d : (upd (upd A2 p2 (.dK kvs)) u (.ins C dy (putF "_labels" (.ref p2) g2))) p2 = some (.dK kvs) := by
      rw [upd_ne p2u, upd_same]
    have v1 : (putF "_labels" (.ref p2) g2).lookup ("_marks" : Str) = some (.ref p) := by rw [lookup_putF, if_neg (by decide)]; exact w1
    have v2 : (putF "_labels" (.ref p2) g2).lookup ("_labels" : Str) = some (.ref p2) := by rw [lookup_putF, if_pos rfl]
    have v3 : (putF "_labels" (.ref p2) g2).lookup ("_given" : Str) = some (num 1) := by rw [lookup_putF, if_neg (by decide)]; exact w3
    have v4 : (putF "_labels" (.ref p2) g2).lookup ("_times" : Str) = some (num 0) := by rw [lookup_putF, if_neg (by decide)]; exact w4
    have vl : ∀ f, f ∉ fields → (putF "_labels" (.ref p2) g2).lookup f = none := fun g hg => by
      rw [lookup_putF, if_neg (fun z => hg (by rw [z]; decide))]
      exact wl g hg
    have np2 : H p2 = none := none_of' sm2 hp2
    generalize putF "_labels" (.ref p2) g2 = g3 at *
    generalize upd (upd A2 p2 (.dK kvs)) u (.ins C dy g3) = A3 at *
    refine ⟨_, rfl, o, C, dx, fs, num gv, rfl, sm3 _ _ e1, OC.cl, OC.n_given, l3, ?_⟩
    refine ⟨_, rfl, u, C, dy, g3, rfl, a3u, OC.cl, OC.n_given, by omega, ?_⟩
    have g4l := putF_len (v := num gv) v3
    have ou : o ≠ u := ne_of_none e1 n1
    refine ⟨_, rfl, o, C, dx, fs, num ts, rfl, ?_, OC.cl, OC.n_times, l4, ?_⟩
    · rw [upd_ne ou]
      exact sm3 _ _ e1
    have v5 : (putF "_given" (num gv) g3).lookup ("_times" : Str) = some (num 0) := by rw [lookup_putF, if_neg (by decide)]; exact v4
    have g5l := putF_len (v := num ts) v5
    refine ⟨_, rfl, u, C, dy, _, rfl, upd_same, OC.cl, OC.n_times, by omega, ?_⟩
    refine ⟨_, rfl, q u _ (fun c => c = u ∨ c = p ∨ c = p2) n1 ⟨⟨dy, p, p2, _, kvs, upd_same, ?_, ?_, ?_, ?_, fun g hg => ?_, ?_, ?_, dc, by omega, .inl rfl, .inr (.inl rfl), .inr (.inr rfl)⟩, r.ok⟩ (fun c hc => ?_) fun c x z => ?_⟩
    · rw [lookup_putF, if_neg (by decide), lookup_putF, if_neg (by decide)]
      exact v1
    · rw [lookup_putF, if_neg (by decide), lookup_putF, if_neg (by decide)]
      exact v2
    · rw [lookup_putF, if_neg (by decide), lookup_putF, if_pos rfl]
    · rw [lookup_putF, if_pos rfl]
    · rw [lookup_putF, if_neg (fun z => hg (by rw [z]; decide)), lookup_putF, if_neg (fun z => hg (by rw [z]; decide))]
      exact vl g hg
    · rw [upd_ne pu, upd_ne pu]
      exact a3p
    · rw [upd_ne p2u, upd_ne p2u]
      exact a3d
    · rcases hc with rfl | rfl | rfl
      · exact n1
      · exact np
      · exact np2
    · rw [upd_ne (ne_of_none z n1), upd_ne (ne_of_none z n1)]
      exact sm3 _ _ z
end
end K16
set_option maxHeartbeats 1000000
namespace K16
open PySem PySem.Spec PyProof.Rows L2 Gd
open C8 (clsBody Met pe_mt pe_mt0)
abbrev kl : Key := Sum.inr "left"
abbrev ks : Key := Sum.inr "seed"
abbrev kt : Key := Sum.inr "turn"
abbrev kr : Key := Sum.inr "row"
abbrev kg : Key := Sum.inr "given"
/-- the box of a cell, at most so many numbers drawn -/
def BoxD (H : Hp) (b : Addr) (n : Int) : Prop := ∃ (x y z : Int) (kvs : List (Key × V)), H b = some (.dK kvs) ∧ kvs.length = 3 ∧ valV kvs kl = some (.int x) ∧ valV kvs ks = some (.int y) ∧ valV kvs kt = some (.int z) ∧ 0 ≤ x ∧ 0 ≤ y ∧ y < 2147483647 ∧ 0 ≤ z ∧ z ≤ n
theorem BoxD.kp {H H' : Hp} {b : Addr} {n : Int} (h : BoxD H b n) (k : ∀ u, H b = some u → H' b = some u) : BoxD H' b n := by
  obtain ⟨x, y, z, kvs, h1, h2⟩ := h
  exact ⟨x, y, z, kvs, k _ h1, h2⟩
theorem BoxD.some {H : Hp} {b : Addr} {n : Int} (h : BoxD H b n) : ∃ u, H b = some u := by
  obtain ⟨x, y, z, kvs, h1, h2⟩ := h
  exact ⟨_, h1⟩
theorem BoxD.up {H : Hp} {b : Addr} {n m : Int} (h : BoxD H b n) (k : n ≤ m) : BoxD H b m := by
  obtain ⟨x, y, z, kvs, h1, h2, h3, h4, h5, h6, h7, h8, h9, h10⟩ := h
  exact ⟨x, y, z, kvs, h1, h2, h3, h4, h5, h6, h7, h8, h9, by omega⟩
theorem BoxD.ne {H : Hp} {b p : Addr} {n : Int} (h : BoxD H b n) (e : H p = none) : p ≠ b := fun z => by
  obtain ⟨u, hu⟩ := h.some
  rw [z, hu] at e
  cases e
theorem dgs {H : Hp} {a : Addr} {kvs : List (Key × V)} {k : Str} {v : V} (e : H a = some (.dK kvs)) (h : valV kvs (Sum.inr k) = some v) : DGet H a (.str k) (some v) := h ▸ DGet.k (k := Sum.inr k) e
section
variable {P : Program} {w : World} {K : PySem.W.Frag} {mg : Str → Option Value} {base : Heap} {C : Addr}
theorem ok_cell (T : Txt K mg) (D : DefAt K mg "_law_cell_at" s__law_cell_at ["_law_script", "_law_k"]) : CalG P w K mg base 1 "_law_cell_at" (Gd.spCell K) := by
  refine D.cal sc__law_cell_at (fun vs H Q E h => ?_) (fun f cdv A outer s H vs Q E hG hr h => ?_)
  · obtain ⟨a, ns, k, rfl, _⟩ := h
    rfl
  · obtain ⟨a, ns, k, rfl, hS, hl, hk, q⟩ := h
    refine ⟨_, (pss_cons (ps_if (pt_cmpR op_lt (pv 1) (pe_callB call_len (by rfl) T.b_len boot_len_ (pa_cons (pv 0) pa_nil)) (nomark _))
          (pss_one (ps_ret (pe_ix ix_list (pv 0) (pv 1) (fun _ _ => rfl)))) pss_nil)
      (pss_one (ps_ret (pe_op op_add (pe_op op_mul pe_int (pv 1)) pe_int)))), ?_⟩
    refine ⟨_, rfl, _, rfl, _, _, rfl, .inl ⟨_, hS, rfl⟩, _, _, rfl, rfl, _, rfl, ?_⟩
    refine ite2 (fun e => ?_) (fun e => ?_)
    · have e2 := of_decide_eq_true e
      rw [List.length_map] at e2
      obtain ⟨n, hn⟩ := atI_ints hk e2
      exact ⟨_, rfl, _, rfl, _, _, _, _, rfl, rfl, hS, hn, q n⟩
    · exact ⟨_, rfl, _, _, rfl, rfl, .inl ⟨by decide, by decide⟩, _, _, rfl, rfl, q _⟩
def spBoxD : Sp := fun vs H Q _ => ∃ n : Int, vs = [.int n] ∧ ∀ (b : Addr) (H' : Hp), H b = none → BoxD H' b 0 → (∀ c, c ≠ b → H' c = H c) → Q (.ref b) H'
theorem ok_box (T : Txt K mg) (D : DefAt K mg "_law_box" s__law_box ["_law_cell"]) : CalG P w K mg base 1 "_law_box" spBoxD := by
  refine D.cal sc__law_box (fun vs H Q E h => ?_) (fun f cdv A outer s H vs Q E hG hr h => ?_)
  · obtain ⟨n, rfl, _⟩ := h
    rfl
  · obtain ⟨n, rfl, q⟩ := h
    refine ⟨_, (pss_one (ps_ret (pe_disp (pps_cons pe_str (pe_callB (call_max2 rfl) (by rfl) T.b_max boot_max_ (pa_cons pe_int (pa_cons (pe_op op_sub (pv 0) (pe_op op_pow pe_int pe_int)) pa_nil))) (pps_cons pe_str (pe_op op_mod (pv 0) pe_int) (pps_cons pe_str pe_int pps_nil))) (by rfl) (by rfl) (fun z => by cases z) (by decide)))), ?_⟩
    intro b hb
    refine ⟨_, rfl, _, _, rfl, rfl, ⟨by decide, by decide, by decide⟩, _, _, rfl, rfl, _, _, rfl, ?_⟩
    refine ⟨_, rfl, _, _, rfl, rfl, (by show (0 : Int) < 2147483647; decide), ?_⟩
    refine ⟨upd_same, [(kl, _), (ks, _), (kt, .int 0)], rfl, (by show 3 ≤ 15; decide), ?_⟩
    refine q b _ hb ⟨_, _, _, _, upd_same, rfl, valV_pos rfl, (valV_neg (show ¬ kl = ks by decide)).trans (valV_pos rfl), (valV_neg (show ¬ kl = kt by decide)).trans ((valV_neg (show ¬ ks = kt by decide)).trans (valV_pos rfl)), ?_, ?_, ?_, by decide, by decide⟩ fun c hc => ?_
    · split <;> omega
    · exact Int.emod_nonneg _ (by decide)
    · exact Int.emod_lt_of_pos _ (by decide)
    · rw [upd_ne hc, upd_ne hc]
def spTakeD : Sp := fun vs H Q _ => ∃ (b : Addr) (m n : Int), vs = [.ref b, .int m] ∧ BoxD H b n ∧ n ≤ 1000000 ∧ 0 < m ∧ m ≤ 1000000000 ∧
  ∀ (d : Int) (H' : Hp), 0 ≤ d → d < m → BoxD H' b (n + 1) → (∀ c, c ≠ b → H' c = H c) → Q (.int d) H'
theorem ok_take (T : Txt K mg) (D : DefAt K mg "_law_take" s__law_take ["_law_box_here", "_law_many"]) : CalG P w K mg base 1 "_law_take" spTakeD := by
  refine D.cal sc__law_take (fun vs H Q E h => ?_) (fun f cdv A outer s H vs Q E hG hr h => ?_)
  · obtain ⟨b, m, n, rfl, _⟩ := h
    rfl
  · obtain ⟨b, m, n, rfl, hB, hn, hm0, hm1, q⟩ := h
    obtain ⟨x, y, z, kvs, hb, hl3, vl, vs, vt, hx, hy0, hy1, hz0, hz1⟩ := hB
    refine ⟨_, (pss_cons (ps_if (pt_cmpR op_gt (pe_dget (hu_of hr) (pv 0) pe_str (fun _ _ => rfl)) pe_int (nomark _))
          (pss_cons (ps_set (i := 2) sc__law_take.nd rfl (Or.inl rfl) (pe_op op_mod (pe_dget (hu_of hr) (pv 0) pe_str (fun _ _ => rfl)) (pv 1)))
          (pss_cons (ps_dput (hu_of hr) (pv 0) pe_str (pe_op op_fdiv (pe_dget (hu_of hr) (pv 0) pe_str (fun _ _ => rfl)) (pv 1)) rfl)
          (pss_one (ps_ret (pv 2))))) pss_nil)
      (pss_cons (ps_dput (hu_of hr) (pv 0) pe_str (pe_op op_add (pe_dget (hu_of hr) (pv 0) pe_str (fun _ _ => rfl)) pe_int) rfl)
      (pss_cons (ps_set (i := 3) sc__law_take.nd rfl (Or.inl rfl) (pe_op op_mod (pe_op op_pow (pe_op op_add (pe_dget (hu_of hr) (pv 0) pe_str (fun _ _ => rfl)) (pe_op op_mul pe_int (pe_dget (hu_of hr) (pv 0) pe_str (fun _ _ => rfl)))) pe_int) pe_int))
      (pss_cons (ps_set (i := 3) sc__law_take.nd rfl (Or.inl rfl) (pe_op op_mod (pe_op op_pow (pe_op op_add (pv 3) (pe_op op_mul pe_int (pe_dget (hu_of hr) (pv 0) pe_str (fun _ _ => rfl)))) pe_int) pe_int))
      (pss_one (ps_ret (pe_op op_mod (pe_op op_fdiv (pv 3) pe_int) (pv 1)))))))), ?_⟩
    refine ⟨_, rfl, b, _, rfl, dgs hb vl, _, _, rfl, rfl, _, rfl, ?_⟩
    refine ite2 (fun e => ?_) (fun e => ?_)
    · have e2 := of_decide_eq_true e
      refine ⟨_, rfl, b, _, rfl, dgs hb vl, _, rfl, _, _, rfl, rfl, hm0, ?_⟩
      refine ⟨_, rfl, b, _, rfl, dgs hb vl, _, rfl, _, _, rfl, rfl, ⟨hm0, by omega⟩, ?_⟩
      refine ⟨_, rfl, b, _, rfl, DPut.k (k := kl) hb (small1000 (by omega)), ?_⟩
      refine ⟨_, rfl, ?_⟩
      refine q _ _ (Int.emod_nonneg _ (by omega)) (Int.emod_lt_of_pos _ hm0) ⟨x / m, y, z, _, upd_same, ?_, ?_, ?_, ?_, ?_, hy0, hy1, hz0, by omega⟩ fun c hc => upd_ne hc
      · rw [putK_old vl]
        exact hl3
      · rw [valV_put, if_pos rfl]
      · rw [valV_put, if_neg (by decide)]
        exact vs
      · rw [valV_put, if_neg (by decide)]
        exact vt
      · exact Int.ediv_nonneg (by omega) (by omega)
    · refine ⟨_, rfl, b, _, rfl, dgs hb vt, _, _, rfl, rfl, ?_⟩
      refine ⟨_, rfl, b, _, rfl, DPut.k (k := kt) hb (small1000 (by omega)), ?_⟩
      have hb1 : (upd H b (.dK (putK kvs kt (.int (z + 1))))) b = some (.dK (putK kvs kt (.int (z + 1)))) := upd_same
      have vl1 : valV (putK kvs kt (.int (z + 1))) kl = some (.int x) := by rw [valV_put, if_neg (by decide)]; exact vl
      have vs1 : valV (putK kvs kt (.int (z + 1))) ks = some (.int y) := by rw [valV_put, if_neg (by decide)]; exact vs
      have vt1 : valV (putK kvs kt (.int (z + 1))) kt = some (.int (z + 1)) := by rw [valV_put, if_pos rfl]
      have hl1 : (putK kvs kt (.int (z + 1))).length = 3 := by rw [putK_old vt]; exact hl3
      generalize putK kvs kt (.int (z + 1)) = kv1 at *
      refine ⟨_, rfl, b, _, rfl, dgs hb1 vs1, _, rfl, b, _, rfl, dgs hb1 vt1, _, _, rfl, rfl, .inl ⟨by omega, by omega⟩, _, _, rfl, rfl, ?_⟩
      refine ⟨_, _, rfl, rfl, ⟨by decide, by decide, by omega⟩, _, _, rfl, rfl, (by show (0 : Int) < 2147483629; decide), ?_⟩
      generalize hA : (y + 7919 * (z + 1)) ^ (3 : Int).toNat % 2147483629 = A
      have a0 : 0 ≤ A := hA ▸ Int.emod_nonneg _ (by decide)
      have a1 : A < 2147483629 := hA ▸ Int.emod_lt_of_pos _ (by decide)
      clear hA
      refine ⟨_, rfl, _, rfl, b, _, rfl, dgs hb1 vt1, _, _, rfl, rfl, .inl ⟨by omega, by omega⟩, _, _, rfl, rfl, ?_⟩
      refine ⟨_, _, rfl, rfl, ⟨by decide, by decide, by omega⟩, _, _, rfl, rfl, (by show (0 : Int) < 2147483587; decide), ?_⟩
      refine ⟨_, rfl, _, _, rfl, rfl, ⟨by decide, by decide⟩, ?_⟩
      refine ⟨_, rfl, _, _, rfl, rfl, hm0, ?_⟩
      exact q _ _ (Int.emod_nonneg _ (by omega)) (Int.emod_lt_of_pos _ hm0) ⟨_, _, _, _, hb1, hl1, vl1, vs1, vt1, hx, hy0, hy1, by omega, by omega⟩ fun c hc => upd_ne hc
end
end K16
set_option maxHeartbeats 1000000
namespace K16
open PySem PySem.Spec PyProof.Rows L2 Gd Gx
open C8 (clsBody Met pe_mt pe_mt0)
abbrev km : Key := Sum.inr "times"
/-- a row of pairs of a mark and its label -/
structure RowX (H : Hp) (xs : List V) (ms ls : List Nat) : Prop where
  lm : xs.length = ms.length
  ll : ls.length = ms.length
  at_ : ∀ (i m l : Nat), ms[i]? = some m → ls[i]? = some l → ∃ t, xs[i]? = some (.ref t) ∧ H t = some (.tup [num m, num l])
def Row (H : Hp) (r : Addr) (ms ls : List Nat) : Prop := ∃ xs, H r = some (.lst xs) ∧ RowX H xs ms ls
/-- every tuple stays -/
def KT (H H' : Hp) : Prop := ∀ (c : Addr) (ys : List V), H c = some (.tup ys) → H' c = some (.tup ys)
theorem KT.of {H H' : Hp} (s : Same H H') : KT H H' := fun c ys z => s c _ z
theorem KT.trans {H1 H2 H3 : Hp} (a : KT H1 H2) (b : KT H2 H3) : KT H1 H3 := fun c ys z => b c ys (a c ys z)
theorem RowX.kp {H H' : Hp} {xs : List V} {ms ls : List Nat} (h : RowX H xs ms ls) (k : KT H H') : RowX H' xs ms ls :=
  ⟨h.lm, h.ll, fun i m l a b => by
    obtain ⟨t, e1, e2⟩ := h.at_ i m l a b
    exact ⟨t, e1, k t _ e2⟩⟩
theorem RowX.get {H : Hp} {xs : List V} {ms ls : List Nat} (h : RowX H xs ms ls) {i : Nat} (hi : i < ms.length) : ∃ m l t, ms[i]? = some m ∧ ls[i]? = some l ∧ xs[i]? = some (.ref t) ∧ H t = some (.tup [num m, num l]) := by
  have h2 := h.ll
  obtain ⟨t, e1, e2⟩ := h.at_ i _ _ (List.getElem?_eq_getElem hi) (List.getElem?_eq_getElem (by omega : i < ls.length))
  exact ⟨_, _, t, List.getElem?_eq_getElem hi, List.getElem?_eq_getElem (by omega), e1, e2⟩
theorem RowX.inl {H : Hp} {xs : List V} {ms ls : List Nat} (h : RowX H xs ms ls) {k m l t : Nat} (hk : k ≤ ms.length) (e : H t = some (.tup [num m, num l])) : RowX H (inl xs k (.ref t)) (K16.inl ms k m) (K16.inl ls k l) := by
  have h1 := h.lm
  have h2 := h.ll
  refine ⟨by rw [inl_len (by omega), inl_len hk, h1], by rw [inl_len (by omega), inl_len hk, h2], fun i a b e1 e2 => ?_⟩
  rw [inl_at hk] at e1
  rw [inl_at (by omega)] at e2
  by_cases z : i < k
  · rw [if_pos z] at e1 e2
    obtain ⟨u, p, q⟩ := h.at_ i a b e1 e2
    exact ⟨u, by rw [inl_at (by omega), if_pos z]; exact p, q⟩
  · rw [if_neg z] at e1 e2
    by_cases z2 : i = k
    · rw [if_pos z2] at e1 e2
      refine ⟨t, by rw [inl_at (by omega), if_neg z, if_pos z2], ?_⟩
      rw [← Option.some.inj e1, ← Option.some.inj e2]
      exact e
    · rw [if_neg z2] at e1 e2
      obtain ⟨u, p, q⟩ := h.at_ _ a b e1 e2
      exact ⟨u, by rw [inl_at (by omega), if_neg z, if_neg z2]; exact p, q⟩
def pd (p : Nat × Nat) : PyData := .tuple [.int (p.1 : Nat), .int (p.2 : Nat)]
theorem RowX.tail {H : Hp} {x : V} {xs : List V} {m l : Nat} {ms ls : List Nat} (h : RowX H (x :: xs) (m :: ms) (l :: ls)) : RowX H xs ms ls :=
  ⟨by have := h.lm; simpa using this, by have := h.ll; simpa using this, fun i a b e1 e2 => h.at_ (i + 1) a b e1 e2⟩
theorem RowX.dp {K : PySem.W.Frag} {H : Hp} : ∀ {xs : List V} {ms ls : List Nat}, RowX H xs ms ls → DpAll K H xs ((ms.zip ls).map pd)
  | [], ms, ls, h => by
    have h1 := h.lm
    obtain rfl : ms = [] := List.length_eq_zero_iff.mp h1.symm
    exact .nil
  | x :: xs, [], ls, h => by
    have h1 := h.lm
    cases h1
  | x :: xs, m :: ms, [], h => by
    have h1 := h.ll
    cases h1
  | x :: xs, m :: ms, l :: ls, h => by
    obtain ⟨t, e1, e2⟩ := h.at_ 0 m l rfl rfl
    obtain rfl := Option.some.inj e1
    exact .cons (.tup (SqT.of e2) (.cons (.int _) (.cons (.int _) .nil))) (RowX.dp h.tail)
theorem numOk {n : Nat} (h : n ≤ 1024) : Okd (.int (n : Nat)) 50 0 := okInt ⟨by
  have : (-(10 : Int) ^ 40) ≤ 0 := by decide
  omega, by
  have : (1024 : Int) ≤ 10 ^ 40 := by decide
  omega⟩
theorem rowOk {ms ls : List Nat} {gv : Nat} (o : Ok ms ls gv) (hg : gv ≤ 1000) : Okd (.list ((ms.zip ls).map pd)) 30000 2 := by
  have h1 := o.few
  refine (okList (m := 107) (e := 1) (n := 200) (fun d hd => ?_) ?_).up (by decide) (by decide)
  · obtain ⟨p, hp, rfl⟩ := List.mem_map.mp hd
    obtain ⟨j, hj⟩ := List.getElem?_of_mem hp
    have hj2 := List.getElem?_zip_eq_some.mp hj
    have a := o.lt _ _ hj2.1
    have b := o.top _ _ hj2.2
    refine (okTuple (ds := [.int (p.1 : Nat), .int (p.2 : Nat)]) (m := 50) (e := 0) (n := 2) (fun d hd => ?_) (Nat.le_refl 2)).up (by decide) (by decide)
    rcases List.mem_cons.mp hd with rfl | hd
    · exact numOk (by omega)
    · rcases List.mem_cons.mp hd with rfl | hd
      · exact numOk (by omega)
      · cases hd
  · rw [List.length_map, List.length_zip]
    omega
section
variable {P : Program} {w : World} {K : PySem.W.Frag} {mg : Str → Option Value} {base : Heap} {C : Addr}
theorem yesI {σ : L2.St} {H : Hp} {A B : Hp → Prop} (h : A H) : tYes σ H (fun b H3 => if b = true then A H3 else B H3) := by
  show (if true = true then A H else B H)
  rw [if_pos rfl]
  exact h
/-! the end of the room behind the one at a place -/
def spEnd : Sp := fun vs H Q _ => ∃ (r : Addr) (ms ls : List Nat) (i : Nat), vs = [.ref r, num i] ∧ Row H r ms ls ∧ i < ms.length ∧ Q (num (labAt ls (i + 1))) H
theorem ok_end (T : Txt K mg) (D : DefAt K mg "_law_end" s__law_end ["_law_row", "_law_at"]) : CalG P w K mg base 1 "_law_end" spEnd := by
  refine D.cal sc__law_end (fun vs H Q E h => ?_) (fun f cdv A outer s H vs Q E hG hr h => ?_)
  · obtain ⟨r, ms, ls, i, rfl, _⟩ := h
    rfl
  · obtain ⟨r, ms, ls, i, rfl, ⟨xs, e1, row⟩, hi, q⟩ := h
    have h1 := row.lm
    have h2 := row.ll
    refine ⟨_, (pss_cons (ps_if (pt_cmpR op_lt (pe_op op_add (pv 1) pe_int) (pe_callB call_len (by rfl) T.b_len boot_len_ (pa_cons (pv 0) pa_nil)) (nomark _))
          (pss_one (ps_ret (pe_ix ix_tup (pe_ix ix_list (pv 0) (pe_op op_add (pv 1) pe_int) (fun _ _ => rfl)) pe_int (fun _ _ => rfl)))) pss_nil)
      (pss_one (ps_ret pe_int))), ?_⟩
    refine ⟨_, rfl, _, _, rfl, rfl, _, rfl, .ref r, _, rfl, .inl ⟨_, SqL.of e1, rfl⟩, _, _, rfl, rfl, _, rfl, ?_⟩
    refine ite2 (fun hc => ?_) (fun hc => ?_)
    · have hc := of_decide_eq_true hc
      obtain ⟨m, l, t, g1, g2, g3, g4⟩ := row.get (i := i + 1) (by omega)
      refine ⟨_, rfl, _, rfl, _, _, rfl, rfl, r, _, _, _, rfl, rfl, SqL.of e1, (by have := atI_nat g3; exact this), ?_⟩
      refine ⟨t, _, _, num l, rfl, rfl, SqT.of g4, rfl, ?_⟩
      rw [labAt_in g2] at q
      exact q
    · have hc : ¬ (((i : Nat) : Int) + 1 < ((xs.length : Nat) : Int)) := fun z => hc (decide_eq_true z)
      rw [labAt_end (by omega)] at q
      exact q
/-! the newest one -/
end
end K16
set_option maxHeartbeats 1000000
namespace K16
open PySem PySem.Spec PyProof.Rows L2 Gd Gx
open C8 (clsBody Met pe_mt pe_mt0)
/-- the model of a law: its dict at d, its row at r -/
def Mod (H : Hp) (d r : Addr) (ms ls : List Nat) (ts : Nat) : Prop := ∃ kvs : List (Key × V), H d = some (.dK kvs) ∧ kvs.length = 2 ∧ valV kvs kr = some (.ref r) ∧ valV kvs km = some (num ts) ∧ Row H r ms ls
theorem Mod.kp {H H' : Hp} {d r : Addr} {ms ls : List Nat} {ts : Nat} (h : Mod H d r ms ls ts) (k : ∀ c u, (c = d ∨ c = r) → H c = some u → H' c = some u) (t : KT H H') : Mod H' d r ms ls ts := by
  obtain ⟨kvs, h1, h2, h3, h5, xs, h6, h7⟩ := h
  exact ⟨kvs, k _ _ (.inl rfl) h1, h2, h3, h5, xs, k _ _ (.inr rfl) h6, h7.kp t⟩
theorem Mod.same {H H' : Hp} {d r : Addr} {ms ls : List Nat} {ts : Nat} (h : Mod H d r ms ls ts) (s : Same H H') : Mod H' d r ms ls ts := h.kp (fun c u _ z => s c u z) (KT.of s)
theorem cut_lo {xs : List V} {j : Int} {k : Nat} (e : j = (k : Nat)) (h : k ≤ xs.length) : cutV xs none (some j) = xs.take k := by
  subst e
  unfold cutV
  rw [HT.sIx_none, HT.sIx_nat, List.drop_zero]
  congr 1
  omega
theorem cut_hi {xs : List V} {j : Int} {k : Nat} (e : j = (k : Nat)) (h : k ≤ xs.length) : cutV xs (some j) none = xs.drop k := by
  subst e
  unfold cutV
  rw [HT.sIx_none, HT.sIx_nat, show min k xs.length = k from by omega, List.take_of_length_le (by rw [List.length_drop]; omega)]
theorem inl_end {α : Type} (l : List α) (x : α) : inl l l.length x = l ++ [x] := by
  unfold inl
  rw [List.take_length, List.drop_length, List.append_nil]
theorem RowX.snoc {H : Hp} {xs : List V} {ms ls : List Nat} (h : RowX H xs ms ls) {m l t : Nat} (e : H t = some (.tup [num m, num l])) : RowX H (xs ++ [.ref t]) (ms ++ [m]) (ls ++ [l]) := by
  have z := h.inl (k := ms.length) (Nat.le_refl _) e
  rw [inl_end] at z
  rw [← h.lm, inl_end] at z
  rw [h.lm, ← h.ll, inl_end] at z
  exact z
theorem RowX.step {H : Hp} {ys : List V} {ms ls : List Nat} {k m l t : Nat} (h : RowX H ys (ms.take k) (ls.take k)) (g1 : ms[k]? = some m) (g2 : ls[k]? = some l) (e : H t = some (.tup [num m, num l])) : RowX H (ys ++ [.ref t]) (ms.take (k + 1)) (ls.take (k + 1)) := by
  rw [List.take_add_one, List.take_add_one, g1, g2]
  exact h.snoc e
theorem lt_at {ms : List Nat} {i k : Nat} (h : ms[i]? = some k) : i < ms.length := by
  by_cases z : i < ms.length
  · exact z
  · rw [List.getElem?_eq_none (by omega)] at h
    cases h
section
variable {P : Program} {w : World} {K : PySem.W.Frag} {mg : Str → Option Value} {base : Heap} {C : Addr}
def spLay : Sp := fun vs H Q _ => ∃ (d r : Addr) (ms ls : List Nat) (ts i k : Nat), vs = [.ref d, num k] ∧ Mod H d r ms ls ts ∧ ms[i]? = some k ∧ (∀ (i j m : Nat), ms[i]? = some m → ms[j]? = some m → i = j) ∧ ms.length ≤ 198 ∧
  ∀ (r' : Addr) (H' : Hp), Mod H' d r' (inl ms (i + 1) ms.length) (inl (readyL ls i) (i + 1) (midL ls i)) (readyT ls i ts) → H r' = none → (∀ c u, c ≠ d → H c = some u → H' c = some u) → Q (num ms.length) H'
theorem ok_lay (T : Txt K mg) (c__law_end : CalG P w K mg base 1 "_law_end" spEnd) (D : DefAt K mg "_law_lay" s__law_lay ["_law_model", "_law_mark"]) : CalG P w K mg base 2 "_law_lay" spLay := by
  refine D.cal sc__law_lay (fun vs H Q E h => ?_) (fun f cdv A outer s H vs Q E hG hr h => ?_)
  · obtain ⟨d, r, ms, ls, ts, i, k, rfl, _⟩ := h
    rfl
  · obtain ⟨d, r, ms, ls, ts, i, kk, rfl, ⟨kvs, h1, h2, h3, h5, xs, e1, row⟩, hkk, nd, few, q⟩ := h
    have hl1 := row.lm
    have hl2 := row.ll
    have hi := lt_at hkk
    refine ⟨_, (pss_cons (ps_set (i := 2) sc__law_lay.nd rfl (Or.inl rfl) (pe_dget (hu_of hr) (pv 0) pe_str (fun _ _ => rfl)))
      (pss_cons (ps_set (i := 3) sc__law_lay.nd rfl (Or.inl rfl) (pe_bm PySem.F.plainAttrs_list PySem.F.slot_list_index PySem.F.type_list_index mt_index (pe_lc (own := [("_law_one", 6), ("_law_label", 7)]) (g := gTup K 2 (gCons (gName 6) (gCons (gName 7) gNil))) (tt := tYes) rfl sc__law_lay.nd (pi_list (pv 2)) (blkOk_by (own := [("_law_one", 6), ("_law_label", 7)]) (N := ["_law_model", "_law_mark", "_law_row", "_law_at", "_law_step", "_law_k", "_law_one", "_law_label"]) (sc := defScope s__law_lay) (by decide +kernel)) (fun _ _ _ _ _ => by exact (pg_tup (by rfl) (pgs_cons (pg_name (i := 6) sc__law_lay.nd rfl (Or.inl rfl)) (pgs_cons (pg_name (i := 7) sc__law_lay.nd rfl (Or.inl rfl)) pgs_nil)))) (fun _ _ _ _ _ => pts_nil) (fun _ _ _ _ _ => (pv 6))) (pa_cons (pv 1) pa_nil)))
      (pss_cons (ps_if (pt_cmpR op_lt (pe_op op_sub (pe_g c__law_end hG (hr.mono (by decide)) (by rfl) (pa_cons (pv 2) (pa_cons (pv 3) pa_nil))) (pe_ix ix_tup (pe_ix ix_list (pv 2) (pv 3) (fun _ _ => rfl)) pe_int (fun _ _ => rfl))) pe_int (nomark _))
          (pss_cons (ps_set (i := 4) sc__law_lay.nd rfl (Or.inr rfl) (pe_op op_fdiv pe_int (pe_callB call_len (by rfl) T.b_len boot_len_ (pa_cons (pv 2) pa_nil))))
          (pss_cons (ps_setLc (i := 2) (own := [("_law_k", 5), ("_law_one", 6), ("_law_label", 7)]) (g := gTup K 2 (gCons (gName 5) (gCons (gTup K 2 (gCons (gName 6) (gCons (gName 7) gNil))) gNil))) (tt := tYes) rfl sc__law_lay.nd rfl rfl (sw_true rfl rfl rfl (by decide +kernel)) (pi_enum (by rfl) T.b_enumerate (pa_cons (pv 2) pa_nil)) (blkOk_by (own := [("_law_k", 5), ("_law_one", 6), ("_law_label", 7)]) (N := ["_law_model", "_law_mark", "_law_row", "_law_at", "_law_step", "_law_k", "_law_one", "_law_label"]) (sc := defScope s__law_lay) (by decide +kernel)) (fun _ _ _ _ _ => by exact (pg_tup (by rfl) (pgs_cons (pg_name (i := 5) sc__law_lay.nd rfl (Or.inl rfl)) (pgs_cons (pg_tup (by rfl) (pgs_cons (pg_name (i := 6) sc__law_lay.nd rfl (Or.inl rfl)) (pgs_cons (pg_name (i := 7) sc__law_lay.nd rfl (Or.inl rfl)) pgs_nil))) pgs_nil)))) (fun _ _ _ _ _ => pts_nil) (fun _ _ _ _ _ => (pe_tup (pa_cons (pv 6) (pa_cons (pe_op op_mul (pv 5) (pv 4)) pa_nil)))))
          (pss_one (ps_dput (hu_of hr) (pv 0) pe_str (pe_op op_add (pe_dget (hu_of hr) (pv 0) pe_str (fun _ _ => rfl)) pe_int) rfl)))) pss_nil)
      (pss_cons (ps_dput (hu_of hr) (pv 0) pe_str (pe_op op_cat (pe_op op_cat (pe_slice sl_list (pv 2) po_none (po_some (pe_op op_add (pv 3) pe_int))) (pe_lst (pa_cons (pe_tup (pa_cons (pe_callB call_len (by rfl) T.b_len boot_len_ (pa_cons (pv 2) pa_nil)) (pa_cons (pe_op op_fdiv (pe_op op_add (pe_ix ix_tup (pe_ix ix_list (pv 2) (pv 3) (fun _ _ => rfl)) pe_int (fun _ _ => rfl)) (pe_g c__law_end hG (hr.mono (by decide)) (by rfl) (pa_cons (pv 2) (pa_cons (pv 3) pa_nil)))) pe_int) pa_nil))) pa_nil))) (pe_slice sl_list (pv 2) (po_some (pe_op op_add (pv 3) pe_int)) po_none)) rfl)
      (pss_one (ps_ret (pe_callB call_len (by rfl) T.b_len boot_len_ (pa_cons (pv 2) pa_nil)))))))), ?_⟩
    refine ⟨_, rfl, d, _, rfl, dgs h1 h3, ?_⟩
    refine ⟨_, rfl, r, rfl, ⟨_, SqL.of e1⟩, fun D hD => ?_⟩
    refine lc_it (walk_list (xs := xs)) (fun k H' => Same H H' ∧ H' D = some (.lst ((ms.take k).map num))) ⟨same_new hD, upd_same⟩ (fun i H' _ hP => SqL.of (hP.1 _ _ e1)) (fun k x H1 H2 hk hP hY => ?_) (fun H1 hP => ?_)
    · obtain ⟨s1, d1⟩ := hP
      obtain ⟨rfl, hx⟩ := hY
      obtain ⟨m, l, t, g1, g2, g3, g4⟩ := row.get (i := k) (by omega)
      rw [g3] at hx
      cases (Option.some.inj hx)
      refine ⟨t, _, rfl, SqT.of (s1 _ _ g4), rfl, _, _, rfl, _, _, rfl, rfl, rfl, ?_⟩
      refine yesI ?_
      refine ⟨_, rfl, _, d1, ?_, fun c u z => ?_, ?_⟩
      · rw [List.length_map, List.length_take]
        exact small1000 (by omega)
      · rw [upd_ne (ne_of_none z hD)]
        exact s1 _ _ z
      · rw [upd_same, List.take_add_one, g1, List.map_append]
        rfl
    obtain ⟨s1, d1⟩ := hP
    rw [List.take_of_length_le (by omega)] at d1
    have q : ∀ (r' : Addr) (H' : Hp), Mod H' d r' (inl ms (i + 1) ms.length) (inl (readyL ls i) (i + 1) (midL ls i)) (readyT ls i ts) → H1 r' = none → (∀ c u, c ≠ d → H1 c = some u → H' c = some u) → Q (num ms.length) H' :=
      fun r' H' md n fr => q r' H' md (none_of' s1 n) fun c u hc z => fr c u hc (s1 _ _ z)
    have h1 := s1 _ _ h1
    have e1 := s1 _ _ e1
    have row := row.kp (KT.of s1)
    obtain ⟨m0, l0, t0, g1, g2, g3, g4⟩ := row.get hi
    refine ⟨.inl ⟨rfl, _, SqL.of d1⟩, _, rfl, D, _, num kk, i, num kk, rfl, rfl, SqL.of d1, rfl, flat_nums _, ?_, by simp [eqV, num], fun mm z hm hz => ?_, ?_⟩
    · rw [List.getElem?_map, hkk]
      rfl
    · rw [List.getElem?_map] at hz
      cases hx : ms[mm]? with
      | none =>
        rw [hx] at hz
        cases hz
      | some x =>
        rw [hx] at hz
        cases (show some (num x) = some z from hz)
        have hne : x ≠ kk := fun e => by
          subst e
          have := nd _ _ _ hx hkk
          omega
        show eqV (.int (x : Nat)) (.int (kk : Nat)) = false
        simp only [eqV, decide_eq_false_iff_not, beq_eq_false_iff_ne]
        intro z
        have z2 : (x : Int) = (kk : Int) := by simpa using z
        exact hne (by omega)
    clear s1 d1 hD
    refine ⟨_, rfl, _, rfl, r, ms, ls, i, rfl, ⟨xs, e1, row⟩, hi, ?_⟩
    refine ⟨_, rfl, _, rfl, r, _, _, _, rfl, rfl, SqL.of e1, atI_nat g3, t0, _, _, num l0, rfl, rfl, SqT.of g4, rfl, _, _, rfl, rfl, _, _, rfl, rfl, _, rfl, ?_⟩
    have hla : labAt ls i = l0 := labAt_in g2
    refine ite2 (fun hc => ?_) (fun hc => ?_)
    focus
      have hc : ((labAt ls (i + 1) : Nat) : Int) - ((l0 : Nat) : Int) < 2 := of_decide_eq_true hc
      have hg : ¬ gap ls i := by
        unfold gap
        omega
      refine ⟨_, rfl, .ref r, _, rfl, .inl ⟨_, SqL.of e1, rfl⟩, _, _, rfl, rfl, ⟨by omega, by omega⟩, ?_⟩
      refine ⟨_, rfl, r, _, rfl, SqL.of e1, fun D hD => ?_⟩
      refine lc_it (walk_enum (xs := xs)) (fun k H' => Same H1 H' ∧ ∃ ys, H' D = some (.lst ys) ∧ RowX H' ys (ms.take k) ((anewL ms.length).take k)) ⟨same_new hD, [], upd_same, ⟨rfl, rfl, fun a b c z => by cases z⟩⟩ (fun k H' _ hP => SqL.of (hP.1 _ _ e1)) (fun k v H2 H3 hk hP hY => ?_) (fun H2 hP => ?_)
      · obtain ⟨s2, ys, d2, rw2⟩ := hP
        obtain ⟨Tp, u, v', rfl, hT, rfl, hu, hv⟩ := hY
        replace hu : some (V.int (k : Nat)) = some u := hu
        replace hv : xs[k]? = some v' := hv
        cases (Option.some.inj hu)
        obtain ⟨m, l, t, a1, a2, a3, a4⟩ := row.get (i := k) (by omega)
        rw [a3] at hv
        cases (Option.some.inj hv)
        have g5 := kep (u := .tup [V.int (k : Nat), .ref t]) (s2 _ _ a4) hT
        have d3 := kep (u := .tup [V.int (k : Nat), .ref t]) d2 hT
        have s23 : Same H2 (upd H2 Tp (.tup [V.int (k : Nat), .ref t])) := same_new hT
        have f3 : (upd H2 Tp (.tup [V.int (k : Nat), .ref t])) Tp = some (.tup [V.int (k : Nat), .ref t]) := upd_same
        generalize upd H2 Tp (.tup [V.int (k : Nat), .ref t]) = H3 at *
        refine ⟨Tp, _, rfl, SqT.of f3, rfl, _, _, rfl, _, _, rfl, t, _, rfl, SqT.of g5, rfl, _, _, rfl, _, _, rfl, rfl, rfl, rfl, ?_⟩
        refine yesI ?_
        refine ⟨_, rfl, _, rfl, _, rfl, _, _, rfl, rfl, .inl ⟨by omega, by omega⟩, (by show 2 ≤ sizeLine; decide), fun t2 ht2 => ?_⟩
        have el : V.int (((k : Nat) : Int) * (1024 / ((xs.length : Nat) : Int))) = num (k * (1024 / ms.length)) := by
          rw [hl1]
          show V.int _ = V.int _
          congr 1
        have s34 := same_new (o := .tup [num m, V.int (((k : Nat) : Int) * (1024 / ((xs.length : Nat) : Int)))]) ht2
        have f4 : (upd H3 t2 (.tup [num m, V.int (((k : Nat) : Int) * (1024 / ((xs.length : Nat) : Int)))])) t2 = some (.tup [num m, num (k * (1024 / ms.length))]) := by
          rw [upd_same, el]
        refine ⟨_, s34 _ _ d3, ?_, ?_⟩
        · have := rw2.lm
          rw [List.length_take] at this
          exact small1000 (by omega)
        · have s4 : Same H1 (upd H3 t2 (.tup [num m, V.int (((k : Nat) : Int) * (1024 / ((xs.length : Nat) : Int)))])) := (s2.trans s23).trans s34
          have rw4 := rw2.kp (KT.of (s23.trans s34))
          have d4 := s34 _ _ d3
          generalize upd H3 t2 (.tup [num m, V.int (((k : Nat) : Int) * (1024 / ((xs.length : Nat) : Int)))]) = H4 at *
          refine ⟨fun c u z => ?_, _, upd_same, (rw4.step a1 (anew_at (by omega)) f4).kp fun c u z => ?_⟩
          · rw [upd_ne (ne_of_none z hD)]
            exact s4 _ _ z
          · rw [upd_ne (fun e : c = D => by rw [e, d4] at z; cases z)]
            exact z
      obtain ⟨s2, ys, d2, rw2⟩ := hP
      rw [List.take_of_length_le (by omega), List.take_of_length_le (by rw [anew_len]; omega)] at rw2
      have b1 := s2 _ _ h1
      refine ⟨_, rfl, d, _, rfl, dgs b1 h5, _, _, rfl, rfl, _, rfl, d, _, rfl, DPut.k (k := km) b1 (small1000 (by omega)), ?_⟩
      have dD : D ≠ d := (ne_of_none h1 hD).symm
      have v1 : valV (putK kvs km (.int ((ts : Int) + 1))) kr = some (.ref r) := by rw [valV_put, if_neg (by decide)]; exact h3
      have v3 : valV (putK kvs km (.int ((ts : Int) + 1))) km = some (num (readyT ls i ts)) := by
        rw [valV_put, if_pos rfl]
        unfold readyT
        rw [if_neg hg]
        rfl
      have v4 : (putK kvs km (.int ((ts : Int) + 1))).length = 2 := (putK_old h5).trans h2
      have er : readyL ls i = anewL ms.length := by
        unfold readyL
        rw [if_neg hg, hl2]
      rw [← er] at rw2
      have w1 : (upd H2 d (.dK (putK kvs km (.int ((ts : Int) + 1))))) d = some (.dK (putK kvs km (.int ((ts : Int) + 1)))) := upd_same
      have w2 : (upd H2 d (.dK (putK kvs km (.int ((ts : Int) + 1))))) D = some (.lst ys) := by rw [upd_ne dD]; exact d2
      have w3 := rw2.kp (H' := upd H2 d (.dK (putK kvs km (.int ((ts : Int) + 1))))) fun c u z => by
        rw [upd_ne (fun e : c = d => by rw [e, b1] at z; cases z)]
        exact z
      have w4 : ∀ c u, c ≠ d → H1 c = some u → (upd H2 d (.dK (putK kvs km (.int ((ts : Int) + 1))))) c = some u := fun c u hc z => by
        rw [upd_ne hc]
        exact s2 _ _ z
      generalize upd H2 d (.dK (putK kvs km (.int ((ts : Int) + 1)))) = H9 at *
      generalize putK kvs km (.int ((ts : Int) + 1)) = kv9 at *
      clear hc
    rotate_left
    focus
      have hc : ¬ (((labAt ls (i + 1) : Nat) : Int) - ((l0 : Nat) : Int) < 2) := fun z => hc (decide_eq_true z)
      have hg : gap ls i := by
        unfold gap
        omega
      obtain ⟨D, rfl⟩ : ∃ X, X = r := ⟨_, rfl⟩
      have w1 := h1
      have w2 := e1
      have w3 : RowX H1 xs ms (readyL ls i) := by
        unfold readyL
        rw [if_pos hg]
        exact row
      have w4 : ∀ c u, c ≠ d → H1 c = some u → H1 c = some u := fun c u _ z => z
      have v1 := h3
      have v3 : valV kvs km = some (num (readyT ls i ts)) := by
        unfold readyT
        rw [if_pos hg]
        exact h5
      have v4 := h2
      obtain ⟨ys, hys⟩ : ∃ X, X = xs := ⟨_, rfl⟩
      rw [← hys] at w2 w3
      obtain ⟨H9, hH9⟩ : ∃ X, X = H1 := ⟨_, rfl⟩
      rw [← hH9]
      rw [← hH9] at w1 w2 w3
      replace w4 : ∀ c u, c ≠ d → H1 c = some u → H9 c = some u := fun c u _ z => hH9 ▸ z
      obtain ⟨kv9, hk9⟩ : ∃ X, X = kvs := ⟨_, rfl⟩
      rw [← hk9] at w1 v1 v3 v4
      clear hc
    all_goals
      obtain ⟨m, l, t, a1, a2, a3, a4⟩ := w3.get hi
      have ha : labAt (readyL ls i) i = l := labAt_in a2
      have hb : midL ls i = (l + labAt (readyL ls i) (i + 1)) / 2 := by
        unfold midL
        rw [ha]
      have y1 := w3.lm
      have em : V.int ((((l : Nat) : Int) + ((labAt (readyL ls i) (i + 1) : Nat) : Int)) / 2) = num (midL ls i) := by
        rw [hb]
        show V.int _ = V.int _
        congr 1
      refine ⟨_, rfl, _, rfl, _, _, rfl, rfl, _, rfl, D, _, rfl, SqL.of w2, fun p1 hp1 => ?_⟩
      rw [cut_lo (k := i + 1) (by omega) (by omega)]
      have s1 := same_new (o := .lst (ys.take (i + 1))) hp1
      have c1 : (upd H9 p1 (.lst (ys.take (i + 1)))) p1 = some (.lst (ys.take (i + 1))) := upd_same
      generalize upd H9 p1 (.lst (ys.take (i + 1))) = A1 at *
      have w2a := s1 _ _ w2
      refine ⟨_, rfl, .ref D, _, rfl, .inl ⟨_, SqL.of w2a, rfl⟩, ?_⟩
      refine ⟨_, rfl, _, rfl, D, _, _, _, rfl, rfl, SqL.of w2a, atI_nat a3, t, _, _, num l, rfl, rfl, SqT.of (s1 _ _ a4), rfl, _, rfl, _, rfl, D, ms, _, i, rfl, ⟨ys, w2a, w3.kp (KT.of s1)⟩, hi, _, _, rfl, rfl, _, _, rfl, rfl, ⟨by omega, by omega⟩, (by show 2 ≤ sizeLine; decide), fun t1 ht1 => ⟨(by show 1 ≤ sizeLine; decide), fun p2 hp2 => ?_⟩⟩
      have s2 := same_new (o := .tup [.int ((ys.length : Nat) : Int), V.int ((((l : Nat) : Int) + ((labAt (readyL ls i) (i + 1) : Nat) : Int)) / 2)]) ht1
      have c2 : (upd A1 t1 (.tup [.int ((ys.length : Nat) : Int), V.int ((((l : Nat) : Int) + ((labAt (readyL ls i) (i + 1) : Nat) : Int)) / 2)])) t1 = some (.tup [num ms.length, num (midL ls i)]) := by rw [upd_same, em, y1]; rfl
      generalize upd A1 t1 (.tup [.int ((ys.length : Nat) : Int), V.int ((((l : Nat) : Int) + ((labAt (readyL ls i) (i + 1) : Nat) : Int)) / 2)]) = A2 at *
      have s3 := same_new (o := .lst [.ref t1]) hp2
      have c3 : (upd A2 p2 (.lst [.ref t1])) p2 = some (.lst [.ref t1]) := upd_same
      generalize upd A2 p2 (.lst [.ref t1]) = A3 at *
      refine ⟨p1, p2, _, _, rfl, rfl, s3 _ _ (s2 _ _ c1), c3, ?_, fun p3 hp3 => ?_⟩
      · rw [List.length_take]
        refine small1000 ?_
        show min (i + 1) ys.length ≤ 1000
        omega
      have s4 := same_new (o := .lst (ys.take (i + 1) ++ [.ref t1])) hp3
      have c4 : (upd A3 p3 (.lst (ys.take (i + 1) ++ [.ref t1]))) p3 = some (.lst (ys.take (i + 1) ++ [.ref t1])) := upd_same
      generalize upd A3 p3 (.lst (ys.take (i + 1) ++ [.ref t1])) = A4 at *
      refine ⟨_, rfl, _, rfl, _, _, rfl, rfl, _, rfl, D, _, rfl, SqL.of (s4 _ _ (s3 _ _ (s2 _ _ (s1 _ _ w2)))), fun p4 hp4 => ?_⟩
      rw [cut_hi (k := i + 1) (by omega) (by omega)]
      have s5 := same_new (o := .lst (ys.drop (i + 1))) hp4
      have c5 : (upd A4 p4 (.lst (ys.drop (i + 1)))) p4 = some (.lst (ys.drop (i + 1))) := upd_same
      generalize upd A4 p4 (.lst (ys.drop (i + 1))) = A5 at *
      refine ⟨p3, p4, _, _, rfl, rfl, s5 _ _ c4, c5, ?_, fun p5 hp5 => ?_⟩
      · rw [List.length_append, List.length_take, List.length_drop]
        refine Nat.le_of_lt (small1000 ?_)
        show min (i + 1) ys.length + 1 + (ys.length - (i + 1)) ≤ 1000
        omega
      have s6 := same_new (o := .lst (ys.take (i + 1) ++ [.ref t1] ++ ys.drop (i + 1))) hp5
      have c6 : (upd A5 p5 (.lst (ys.take (i + 1) ++ [.ref t1] ++ ys.drop (i + 1)))) p5 = some (.lst (inl ys (i + 1) (.ref t1))) := upd_same
      generalize upd A5 p5 (.lst (ys.take (i + 1) ++ [.ref t1] ++ ys.drop (i + 1))) = A6 at *
      have s95 : Same H9 A5 := (((s1.trans s2).trans s3).trans s4).trans s5
      have s96 : Same H9 A6 := s95.trans s6
      have n9 : H9 p5 = none := none_of' s95 hp5
      have d5 : p5 ≠ d := (ne_of_none w1 n9).symm
      have z1 := s96 _ _ w1
      have rowf : RowX A6 (inl ys (i + 1) (.ref t1)) (inl ms (i + 1) ms.length) (inl (readyL ls i) (i + 1) (midL ls i)) :=
        (w3.kp (KT.of s96)).inl (by omega) (s6 _ _ (s5 _ _ (s4 _ _ (s3 _ _ c2))))
      refine ⟨_, rfl, d, _, rfl, DPut.k (k := kr) z1 (small1000 (by omega)), ?_⟩
      have u1 : valV (putK kv9 kr (.ref p5)) kr = some (.ref p5) := by rw [valV_put, if_pos rfl]
      have u3 : valV (putK kv9 kr (.ref p5)) km = some (num (readyT ls i ts)) := by rw [valV_put, if_neg (by decide)]; exact v3
      have u4 : (putK kv9 kr (.ref p5)).length = 2 := (putK_old v1).trans v4
      have hDd : D ≠ d := fun e => by rw [e, w1] at w2; cases w2
      refine ⟨_, rfl, .ref D, _, rfl, .inl ⟨_, SqL.of ((upd_ne hDd).trans (s96 _ _ w2)), rfl⟩, ?_⟩
      rw [show V.int ((ys.length : Nat) : Int) = num ms.length from by rw [y1]; rfl]
      refine q p5 _ ⟨_, upd_same, u4, u1, u3, _, ?_, rowf.kp fun c u z => ?_⟩ ?_ fun c u hc z => ?_
      · rw [upd_ne d5]
        exact c6
      · have hcd : c ≠ d := fun e => by rw [e, z1] at z; cases z
        rw [upd_ne hcd]
        exact z
      · cases hx : H1 p5 with
        | none => rfl
        | some u =>
          have := w4 p5 u d5 hx
          rw [n9] at this
          cases this
      · rw [upd_ne hc]
        exact s96 _ _ (w4 c u hc z)
def spOneOf : Sp := fun vs H Q _ => ∃ (b : Addr) (m : Int) (n : Nat), vs = [.ref b, num n] ∧ BoxD H b m ∧ m ≤ 100000 ∧ 0 < n ∧ n ≤ 100 ∧ ∀ (i : Nat) (H' : Hp), i < n → BoxD H' b (m + 2) → (∀ c u, c ≠ b → H c = some u → H' c = some u) → Q (num i) H'
theorem ok_oneof (T : Txt K mg) (c__law_take : CalG P w K mg base 1 "_law_take" spTakeD) (D : DefAt K mg "_law_one_of" s__law_one_of ["_law_box_here", "_law_many"]) : CalG P w K mg base 2 "_law_one_of" spOneOf := by
  refine D.cal sc__law_one_of (fun vs H Q E h => ?_) (fun f cdv A outer s H vs Q E hG hr h => ?_)
  · obtain ⟨b, m, n, rfl, _⟩ := h
    rfl
  · obtain ⟨b, m, n, rfl, hB, hm, h0, h1, q⟩ := h
    refine ⟨_, (pss_cons (ps_set (i := 2) sc__law_one_of.nd rfl (Or.inl rfl) (pe_g c__law_take hG (hr.mono (by decide)) (by rfl) (pa_cons (pv 0) (pa_cons pe_int pa_nil))))
      (pss_cons (ps_set (i := 3) sc__law_one_of.nd rfl (Or.inl rfl) (pe_g c__law_take hG (hr.mono (by decide)) (by rfl) (pa_cons (pv 0) (pa_cons (pv 1) pa_nil))))
      (pss_one (ps_ret (pe_ix ix_list (pe_lst (pa_cons (pv 3) (pa_cons pe_int (pa_cons (pe_op op_sub (pv 1) pe_int) (pa_cons (pe_callB (call_max2 rfl) (by rfl) T.b_max boot_max_ (pa_cons pe_int (pa_cons (pe_op op_sub (pv 1) pe_int) pa_nil))) pa_nil))))) (pv 2) (fun _ _ => rfl)))))), ?_⟩
    refine ⟨_, rfl, b, 4, m, rfl, hB, by omega, by decide, by decide, fun way H1 w0 w1 hB1 k1 => ?_⟩
    refine ⟨_, rfl, _, rfl, b, (n : Nat), m + 1, rfl, hB1, by omega, by omega, by omega, fun t0 H2 a0 a1 hB2 k2 => ?_⟩
    refine ⟨_, rfl, _, rfl, _, _, rfl, rfl, _, rfl, _, _, rfl, rfl, _, _, rfl, (by show 4 ≤ sizeLine; decide), fun l hl => ?_⟩
    have lb : l ≠ b := hB2.ne hl
    obtain ⟨v, hv, hat⟩ := pickL [.int t0, .int 0, .int (((n : Nat) : Int) - 1), V.int (if 0 < ((n : Nat) : Int) - 2 then ((n : Nat) : Int) - 2 else 0)] w0 (by show way < ((4 : Nat) : Int); omega)
    refine ⟨_, rfl, l, _, _, v, rfl, rfl, SqL.of upd_same, hat, ?_⟩
    obtain ⟨i, rfl, hi⟩ : ∃ i : Nat, v = num i ∧ i < n := by
      simp only [List.mem_cons, List.not_mem_nil, or_false] at hv
      rcases hv with rfl | rfl | rfl | rfl
      · exact ⟨t0.toNat, by show V.int _ = V.int _; congr 1; omega, by omega⟩
      · exact ⟨0, rfl, by omega⟩
      · exact ⟨n - 1, by show V.int _ = V.int _; congr 1; omega, by omega⟩
      · exact ⟨n - 2, by show V.int _ = V.int _; congr 1; split <;> omega, by omega⟩
    refine q i _ hi ((hB2.up (by omega)).kp fun u z => kep z hl) fun c u hc z => kep ((k2 c hc).trans ((k1 c hc).trans z)) hl
end
end K16
set_option maxHeartbeats 1000000
namespace K16
open PySem PySem.Spec PyProof.Rows L2 Gd Gx
open C8 (clsBody Met pe_mt pe_mt0)
/-- a dict comprehension over what walks -/
theorem dc_it {J : It} {n : Nat} {G : Hp → Prop} {Y : Nat → Hp → V → Hp → Prop} (w : Walk J n G Y) {g : TG} {tt : TT} {tk tv : TE} {vs : List Nat} {σ : L2.St} {H1 : Hp} {D : Addr} {Qd : Hp → Prop} (Pv : Nat → Hp → Prop) (h0 : Pv 0 (upd H1 D (.dK []))) (hG : ∀ i H, i ≤ n → Pv i H → G H)
    (hs : ∀ i x H H', i < n → Pv i H → Y i H x H' → g x (wipe σ vs) H' fun σ2 H2 => wipe σ2 vs = wipe σ vs ∧ tt σ2 H2 fun b H3 =>
      if b = true then tk σ2 H3 fun y H4 => tv σ2 H4 fun z H5 => ∃ kvs k, y = kV k ∧ H5 D = some (.dK kvs) ∧ kvs.length < sizeLine ∧ Pv (i + 1) (upd H5 D (.dK (putK kvs k z))) else Pv (i + 1) H3) (hd : ∀ H, Pv n H → Qd H) :
    ∃ W : Nat → Nat → Hp → Prop, (∃ m, W 0 m (upd H1 D (.dK []))) ∧ ∀ i m H, W i m H →
      (J.stop i H ∧ Qd H) ∨ (J.go i H ∧ ∃ Nx : Hp → Prop, (∀ H', Nx H' → ∃ m', m' < m ∧ W (i + 1) m' H') ∧ ∀ x H', J.yld i H x H' → g x (wipe σ vs) H' fun σ2 H2 => wipe σ2 vs = wipe σ vs ∧ tt σ2 H2 fun b H3 =>
        if b = true then tk σ2 H3 fun y H4 => tv σ2 H4 fun z H5 => ∃ kvs k, y = kV k ∧ H5 D = some (.dK kvs) ∧ kvs.length < sizeLine ∧ Nx (upd H5 D (.dK (putK kvs k z))) else Nx H3) := by
  refine ⟨fun i m H => m = n - i ∧ i ≤ n ∧ Pv i H, ⟨n, by simp, Nat.zero_le _, h0⟩, ?_⟩
  rintro i m H ⟨rfl, hi, p⟩
  have q := hG i H hi p
  by_cases hlt : i < n
  · exact .inr ⟨w.goes i H hlt q, Pv (i + 1), fun H' p' => ⟨n - (i + 1), by omega, rfl, hlt, p'⟩, fun x H' y => hs i x H H' hlt p (w.yields i H x H' hlt q y)⟩
  · have e : i = n := by omega
    subst e
    exact .inl ⟨w.stops H q, hd H p⟩
/-- the class of tours -/
structure TouC (K : PySem.W.Frag) (C : Addr) : Prop where
  cl : Cls K C
  n_order : NoAttr K C "_order"
  n_marks : NoAttr K C "_marks"
def tfields : List Str := ["_order", "_marks"]
/-- the list of the marks of n makes -/
structure PrX (H : Hp) (xs : List V) (n : Nat) : Prop where
  len : xs.length = n
  at_ : ∀ j, j < n → ∃ t, xs[j]? = some (.ref t) ∧ H t = some (.tup [num (2 * j), num (2 * j + 1)])
theorem PrX.kp {H H' : Hp} {xs : List V} {n : Nat} (h : PrX H xs n) (k : KT H H') : PrX H' xs n := ⟨h.len, fun j hj => by
  obtain ⟨t, e1, e2⟩ := h.at_ j hj
  exact ⟨t, e1, k t _ e2⟩⟩
theorem OrdA.cutT {N : Addr → Prop} {H : Hp} {o C : Addr} {ms ls : List Nat} {gv ts : Nat} (r : OrdA N H o C ms ls gv ts) : OrdA (fun c => N c ∧ H c ≠ none ∧ ∀ ys, H c ≠ some (.tup ys)) H o C ms ls gv ts := by
  obtain ⟨dx, m, d, fs, kvs, e1, l1, l2, l3, l4, nl, e2, e3, dc, lf, No, Nm, Nd⟩ := r.ex
  refine ⟨⟨dx, m, d, fs, kvs, e1, l1, l2, l3, l4, nl, e2, e3, dc, lf, ⟨No, ?_, fun ys => ?_⟩, ⟨Nm, ?_, fun ys => ?_⟩, ⟨Nd, ?_, fun ys => ?_⟩⟩, r.ok⟩
  · rw [e1]
    simp
  · rw [e1]
    simp
  · rw [e2]
    simp
  · rw [e2]
    simp
  · rw [e3]
    simp
  · rw [e3]
    simp
/-- a tour at t, N all that is its own -/
structure TouA (N : Addr → Prop) (H : Hp) (t CT CO : Addr) (n : Nat) (ms ls : List Nat) (ts : Nat) : Prop where
  ex : ∃ (dx o r : Addr) (fs : List (Str × V)) (xs : List V) (No : Addr → Prop), H t = some (.ins CT dx fs) ∧ fs.lookup ("_order" : Str) = some (.ref o) ∧ fs.lookup ("_marks" : Str) = some (.ref r) ∧ (∀ f, f ∉ tfields → fs.lookup f = none) ∧ fs.length ≤ 100 ∧
    H r = some (.lst xs) ∧ PrX H xs n ∧ OrdA No H o CO ms ls (2 * n) ts ∧ (∀ c, No c → N c) ∧ N t ∧ N r ∧ ¬ No t ∧ ¬ No r ∧ (∀ c ys, H c = some (.tup ys) → ¬ No c) ∧ ∀ c, No c → H c ≠ none
  len : ms.length = 2 * n
  has : ∀ k, k < 2 * n → ∃ i : Nat, ms[i]? = some k
theorem TouA.mk' {N No : Addr → Prop} {H : Hp} {t CT CO dx o r : Addr} {fs : List (Str × V)} {xs : List V} {n : Nat} {ms ls : List Nat} {ts : Nat} (e1 : H t = some (.ins CT dx fs)) (l1 : fs.lookup ("_order" : Str) = some (.ref o)) (l2 : fs.lookup ("_marks" : Str) = some (.ref r)) (nl : ∀ f, f ∉ tfields → fs.lookup f = none) (lf : fs.length ≤ 100)
    (e2 : H r = some (.lst xs)) (px : PrX H xs n) (oa : OrdA No H o CO ms ls (2 * n) ts) (s : ∀ c, No c → H c ≠ none → N c) (Nt : N t) (Nr : N r) (nt : ¬ No t) (nr : ¬ No r) (len : ms.length = 2 * n) (has : ∀ k, k < 2 * n → ∃ i : Nat, ms[i]? = some k) : TouA N H t CT CO n ms ls ts :=
  ⟨⟨dx, o, r, fs, xs, _, e1, l1, l2, nl, lf, e2, px, oa.cutT, fun c h => s c h.1 h.2.1, Nt, Nr, fun h => nt h.1, fun h => nr h.1, fun c ys z h => h.2.2 ys z, fun c h => h.2.1⟩, len, has⟩
section
variable {N : Addr → Prop} {H H' : Hp} {t CT CO : Addr} {n : Nat} {ms ls : List Nat} {ts : Nat}
theorem TouA.kp (x : TouA N H t CT CO n ms ls ts) (k : ∀ c u, N c → H c = some u → H' c = some u) (kt : KT H H') : TouA N H' t CT CO n ms ls ts := by
  obtain ⟨dx, o, r, fs, xs, No, e1, l1, l2, nl, lf, e2, px, oa, s, Nt, Nr, nt, nr, ct, al⟩ := x.ex
  exact .mk' (k _ _ Nt e1) l1 l2 nl lf (k _ _ Nr e2) (px.kp kt) (oa.kp fun c u h z => k c u (s c h) z) (fun c h _ => s c h) Nt Nr nt nr x.len x.has
theorem TouA.same (x : TouA N H t CT CO n ms ls ts) (s : Same H H') : TouA N H' t CT CO n ms ls ts := x.kp (fun c u _ z => s c u z) (KT.of s)
theorem TouA.sub {M : Addr → Prop} (x : TouA N H t CT CO n ms ls ts) (s' : ∀ c, H c ≠ none → N c → M c) : TouA M H t CT CO n ms ls ts := by
  obtain ⟨dx, o, r, fs, xs, No, e1, l1, l2, nl, lf, e2, px, oa, s, Nt, Nr, nt, nr, ct, al⟩ := x.ex
  exact ⟨⟨dx, o, r, fs, xs, No, e1, l1, l2, nl, lf, e2, px, oa, fun c h => s' c (al c h) (s c h), s' _ (by rw [e1]; simp) Nt, s' _ (by rw [e2]; simp) Nr, nt, nr, ct, al⟩, x.len, x.has⟩
theorem TouA.ins (x : TouA N H t CT CO n ms ls ts) : ∃ dx fs, H t = some (.ins CT dx fs) ∧ (∀ f, f ∉ tfields → fs.lookup f = none) := by
  obtain ⟨dx, o, r, fs, xs, No, e1, l1, l2, nl, lf, e2, px, oa, s, Nt, Nr, nt, nr, ct, al⟩ := x.ex
  exact ⟨dx, fs, e1, nl⟩
theorem TouA.ok (x : TouA N H t CT CO n ms ls ts) : Ok ms ls (2 * n) := by
  obtain ⟨dx, o, r, fs, xs, No, e1, l1, l2, nl, lf, e2, px, oa, s, Nt, Nr, nt, nr, ct, al⟩ := x.ex
  exact oa.ok
end
/-- behind a make put on one whose coming is the i-th mark -/
def msG (ms : List Nat) (i : Nat) : List Nat := inl (inl ms (i + 1) ms.length) (i + 2) (ms.length + 1)
def lsO (ls : List Nat) (i : Nat) : List Nat := inl (readyL ls i) (i + 1) (midL ls i)
def lsG (ls : List Nat) (i : Nat) : List Nat := lsO (lsO ls i) (i + 1)
def tsG (ls : List Nat) (i ts : Nat) : Nat := readyT (lsO ls i) (i + 1) (readyT ls i ts)
theorem has_inl {ms : List Nat} {g k : Nat} (hk : k ≤ ms.length) (has : ∀ j, j < g → ∃ i : Nat, ms[i]? = some j) : ∀ j, j < g + 1 → ∃ i : Nat, (inl ms k g)[i]? = some j := fun j hj => by
  by_cases e : j = g
  · exact ⟨k, by rw [inl_at hk, if_neg (by omega), if_pos rfl, e]⟩
  · obtain ⟨i, hi⟩ := has j (by omega)
    by_cases z : i < k
    · exact ⟨i, by rw [inl_at hk, if_pos z]; exact hi⟩
    · exact ⟨i + 1, by rw [inl_at hk, if_neg (by omega), if_neg (by omega)]; exact hi⟩
theorem readyT_le (ls : List Nat) (i ts : Nat) : readyT ls i ts ≤ ts + 1 := by
  unfold readyT
  split <;> omega
theorem tsG_le (ls : List Nat) (i ts : Nat) : tsG ls i ts ≤ ts + 2 := by
  have := readyT_le ls i ts
  have := readyT_le (lsO ls i) (i + 1) (readyT ls i ts)
  unfold tsG
  omega
section
variable {P : Program} {w : World} {K : PySem.W.Frag} {mg : Str → Option Value} {base : Heap} {C CT CO : Addr}
def spTMany (CT CO : Addr) : Sp := fun vs H Q _ => ∃ (N : Addr → Prop) (t : Addr) (n : Nat) (ms ls : List Nat) (ts : Nat), vs = [.ref t] ∧ TouA N H t CT CO n ms ls ts ∧ Q (num n) H
theorem ok_tmany (T : Txt K mg) (OC : TouC K CT) (M : MAt K CT "many" "Tour.many" s_Tour_many ["self"]) : Met P w K mg base 1 CT "many" (spTMany CT CO) [] := by
  refine M.met OC.cl sc_Tour_many (fun vs H Q E h => ?_) (fun f cdv A outer s H vs Q E hr h => ?_)
  · obtain ⟨N, t, n, ms, ls, ts, rfl, _⟩ := h
    rfl
  · obtain ⟨N, t, n, ms, ls, ts, rfl, x, q⟩ := h
    obtain ⟨dx, o, r, fs, xs, No, e1, l1, l2, nl, lf, e2, px, oa, s, Nt, Nr, nt, nr, ct, al⟩ := x.ex
    refine ⟨_, (pss_one (ps_ret (pe_callB call_len (by rfl) T.b_len boot_len_ (pa_cons (pe_fld (pv 0) rfl) pa_nil)))), ?_⟩
    refine ⟨_, rfl, t, CT, dx, fs, .ref r, rfl, e1, OC.cl, OC.n_marks, l2, .ref r, xs.length, rfl, .inl ⟨_, SqL.of e2, rfl⟩, ?_⟩
    rw [px.len]
    exact q
def spTNeed (CT CO : Addr) : Sp := fun vs H Q _ => ∃ (N : Addr → Prop) (t : Addr) (n : Nat) (ms ls : List Nat) (ts k : Nat), vs = [.ref t, num k] ∧ TouA N H t CT CO n ms ls ts ∧ k < n ∧ Q .non H
theorem ok_tneed (T : Txt K mg) (OC : TouC K CT) (c_is_whole : C8.Cal P w K mg base 1 "is_whole" spWhI []) (m_many : Met P w K mg base 1 CT "many" (spTMany CT CO) []) (M : MAt K CT "_need_make" "Tour._need_make" s_Tour__need_make ["self", "make"]) : Met P w K mg base 2 CT "_need_make" (spTNeed CT CO) [] := by
  refine M.met OC.cl sc_Tour__need_make (fun vs H Q E h => ?_) (fun f cdv A outer s H vs Q E hr h => ?_)
  · obtain ⟨N, t, n, ms, ls, ts, k, rfl, _⟩ := h
    rfl
  · obtain ⟨N, t, n, ms, ls, ts, k, rfl, x, hk, q⟩ := h
    obtain ⟨dx, fs, e1, nl⟩ := x.ins
    refine ⟨_, (pss_one (ps_if (pt_not (pt_val (C8.pe_c c_is_whole hr (by decide) (by rfl) (pa_cons (pv 1) (pa_cons pe_int (pa_cons (pe_op op_sub (pe_mt0 m_many hr (by decide) (pv 0)) pe_int) pa_nil))))))
          (pss_one ps_never) pss_nil)), ?_⟩
    refine ⟨_, rfl, _, rfl, t, dx, fs, rfl, e1, nl _ (by decide), N, t, n, ms, ls, ts, rfl, x, _, _, rfl, rfl, (k : Int), 0, ((n : Nat) : Int) - 1, rfl, by omega, by omega, _, rfl, iteF q⟩
def spMOf (CT CO : Addr) : Sp := fun vs H Q _ => ∃ (N : Addr → Prop) (t : Addr) (n : Nat) (ms ls : List Nat) (ts k : Nat), vs = [.ref t, num k] ∧ TouA N H t CT CO n ms ls ts ∧ k < n ∧ ∀ p, H p = some (.tup [num (2 * k), num (2 * k + 1)]) → Q (.ref p) H
theorem ok_mof (T : Txt K mg) (OC : TouC K CT) (m__need_make : Met P w K mg base 2 CT "_need_make" (spTNeed CT CO) []) (M : MAt K CT "marks_of" "Tour.marks_of" s_Tour_marks_of ["self", "make"]) : Met P w K mg base 3 CT "marks_of" (spMOf CT CO) [] := by
  refine M.met OC.cl sc_Tour_marks_of (fun vs H Q E h => ?_) (fun f cdv A outer s H vs Q E hr h => ?_)
  · obtain ⟨N, t, n, ms, ls, ts, k, rfl, _⟩ := h
    rfl
  · obtain ⟨N, t, n, ms, ls, ts, k, rfl, x, hk, q⟩ := h
    obtain ⟨dx, o, r, fs, xs, No, e1, l1, l2, nl, lf, e2, px, oa, s, Nt, Nr, nt, nr, ct, al⟩ := x.ex
    obtain ⟨p, p1, p2⟩ := px.at_ k hk
    refine ⟨_, (pss_cons (ps_expr (pe_mt m__need_make hr (by decide) (pv 0) (pa_cons (pv 1) pa_nil)))
      (pss_one (ps_ret (pe_ix ix_list (pe_fld (pv 0) rfl) (pv 1) (fun _ _ => rfl))))), ?_⟩
    refine ⟨_, rfl, t, dx, fs, rfl, e1, nl _ (by decide), _, rfl, N, t, n, ms, ls, ts, k, rfl, x, hk, ?_⟩
    refine ⟨_, rfl, t, CT, dx, fs, .ref r, rfl, e1, OC.cl, OC.n_marks, l2, _, rfl, r, xs, _, _, rfl, rfl, SqL.of e2, atI_nat p1, q p p2⟩
def spGrow (CT CO : Addr) : Sp := fun vs H Q _ => ∃ (N : Addr → Prop) (t : Addr) (n : Nat) (ms ls : List Nat) (ts k i : Nat), vs = [.ref t, num k] ∧ TouA N H t CT CO n ms ls ts ∧ k < n ∧ n < 64 ∧ ms[i]? = some (2 * k) ∧
  ∀ H', TouA N H' t CT CO (n + 1) (msG ms i) (lsG ls i) (tsG ls i ts) → (∀ c u, ¬ N c → H c = some u → H' c = some u) → KT H H' → Q (num n) H'
theorem ok_grow (T : Txt K mg) (OC : TouC K CT) (m__need_make : Met P w K mg base 2 CT "_need_make" (spTNeed CT CO) []) (m_many : Met P w K mg base 1 CT "many" (spTMany CT CO) []) (m_behind : Met P w K mg base 3 CO "behind" (spBehind CO) [])
    (M : MAt K CT "grow" "Tour.grow" s_Tour_grow ["self", "make"]) : Met P w K mg base 4 CT "grow" (spGrow CT CO) [] := by
  refine M.met OC.cl sc_Tour_grow (fun vs H Q E h => ?_) (fun f cdv A outer s H vs Q E hr h => ?_)
  · obtain ⟨N, t, n, ms, ls, ts, k, i, rfl, _⟩ := h
    rfl
  · obtain ⟨N, t, n, ms, ls, ts, k, i, rfl, x, hk, hn, hi, q⟩ := h
    obtain ⟨dx, o, r, fs, xs, No, e1, l1, l2, nl, lf, e2, px, oa, sb, Nt, Nr, nt, nr, ct, al⟩ := x.ex
    have hlen := x.len
    have hlt := lt_at hi
    obtain ⟨p, p1, p2⟩ := px.at_ k hk
    obtain ⟨dy, fo, y1, yl⟩ := oa.ins
    refine ⟨_, (pss_cons (ps_expr (pe_mt m__need_make hr (by decide) (pv 0) (pa_cons (pv 1) pa_nil)))
      (pss_cons (ps_set (i := 2) sc_Tour_grow.nd rfl (Or.inl rfl) (pe_mt0 m_many hr (by decide) (pv 0)))
      (pss_cons (ps_if (pt_cmpR op_ge (pv 2) (pe_gi rfl T.g_MOST_MAKES) (nomark _))
          (pss_one ps_never) pss_nil)
      (pss_cons (ps_set (i := 3) sc_Tour_grow.nd rfl (Or.inl rfl) (pe_mt m_behind hr (by decide) (pe_fld (pv 0) rfl) (pa_cons (pe_ix ix_tup (pe_ix ix_list (pe_fld (pv 0) rfl) (pv 1) (fun _ _ => rfl)) pe_int (fun _ _ => rfl)) pa_nil)))
      (pss_cons (ps_set (i := 4) sc_Tour_grow.nd rfl (Or.inl rfl) (pe_mt m_behind hr (by decide) (pe_fld (pv 0) rfl) (pa_cons (pv 3) pa_nil)))
      (pss_cons (ps_expr (pe_bm PySem.F.plainAttrs_list PySem.F.slot_list_append PySem.F.type_list_append mt_append (pe_fld (pv 0) rfl) (pa_cons (pe_tup (pa_cons (pv 3) (pa_cons (pv 4) pa_nil))) pa_nil)))
      (pss_one (ps_ret (pv 2))))))))), ?_⟩
    refine ⟨_, rfl, t, dx, fs, rfl, e1, nl _ (by decide), _, rfl, N, t, n, ms, ls, ts, k, rfl, x, hk, ?_⟩
    refine ⟨_, rfl, t, dx, fs, rfl, e1, nl _ (by decide), N, t, n, ms, ls, ts, rfl, x, ?_⟩
    refine ⟨_, rfl, _, _, rfl, rfl, _, rfl, ?_⟩
    rw [decide_eq_false (by omega : ¬ ((64 : Int) ≤ ((n : Nat) : Int)))]
    refine iteF ?_
    refine ⟨_, rfl, t, CT, dx, fs, .ref o, rfl, e1, OC.cl, OC.n_order, l1, o, dy, fo, rfl, y1, yl _ (by decide), ?_⟩
    refine ⟨_, rfl, t, CT, dx, fs, .ref r, rfl, e1, OC.cl, OC.n_marks, l2, _, rfl, r, xs, _, _, rfl, rfl, SqL.of e2, atI_nat p1, p, _, _, num (2 * k), rfl, rfl, SqT.of p2, rfl, ?_⟩
    refine ⟨No, o, ms, ls, 2 * n, ts, i, 2 * k, rfl, oa, hi, by omega, by omega, fun H1 oa1 k1 => ?_⟩
    have t1 : KT H H1 := fun c ys z => k1 c _ (ct c ys z) z
    have e11 := k1 _ _ nt e1
    have e21 := k1 _ _ nr e2
    have ct1 : ∀ c ys, H1 c = some (.tup ys) → ¬ (No c ∧ H1 c ≠ none ∧ ∀ ys, H1 c ≠ some (.tup ys)) := fun c ys z h => h.2.2 ys z
    have oa1 := oa1.cutT
    obtain ⟨dy1, fo1, y11, yl1⟩ := oa1.ins
    refine ⟨_, rfl, t, CT, dx, fs, .ref o, rfl, e11, OC.cl, OC.n_order, l1, o, dy1, fo1, rfl, y11, yl1 _ (by decide), ?_⟩
    refine ⟨_, rfl, _, o, _, _, 2 * n + 1, _, i + 1, 2 * n, rfl, oa1, by rw [inl_at (by omega), if_neg (by omega), if_pos rfl], by rw [inl_len (by omega)]; omega, by omega, fun H2 oa2 k2 => ?_⟩
    have k12 : ∀ c u, ¬ No c → H1 c = some u → H2 c = some u := fun c u h z => k2 c u (fun e => h e.1) z
    have t2 : KT H H2 := t1.trans fun c ys z => k2 c _ (ct1 c ys z) z
    have e12 := k12 _ _ nt e11
    have e22 := k12 _ _ nr e21
    refine ⟨_, rfl, t, CT, dx, fs, .ref r, rfl, e12, OC.cl, OC.n_marks, l2, .inl ⟨rfl, _, SqL.of e22⟩, ?_⟩
    refine ⟨_, rfl, _, rfl, (by show 2 ≤ sizeLine; decide), fun p3 hp3 => ?_⟩
    have s3 := same_new (o := .tup [num (2 * n), num (2 * n + 1)]) hp3
    have f3 : (upd H2 p3 (.tup [num (2 * n), num (2 * n + 1)])) p3 = some (.tup [num (2 * n), num (2 * n + 1)]) := upd_same
    generalize upd H2 p3 (.tup [num (2 * n), num (2 * n + 1)]) = H3 at *
    have e13 := s3 _ _ e12
    have e23 := s3 _ _ e22
    have hpl := px.len
    refine ⟨r, _, _, rfl, rfl, e23, small1000 (by omega), ?_⟩
    have tr : t ≠ r := fun e => by rw [e, e2] at e1; cases e1
    have k4 : ∀ c u, c ≠ r → H3 c = some u → (upd H3 r (.lst (xs ++ [.ref p3]))) c = some u := fun c u hc z => by
      rw [upd_ne hc]
      exact z
    have r4 : (upd H3 r (.lst (xs ++ [.ref p3]))) r = some (.lst (xs ++ [.ref p3])) := upd_same
    generalize upd H3 r (.lst (xs ++ [.ref p3])) = H4 at *
    have kt4 : KT H3 H4 := fun c ys z => k4 c _ (fun e => by rw [e, e23] at z; cases z) z
    have t4 : KT H H4 := (t2.trans (KT.of s3)).trans kt4
    refine ⟨_, rfl, q H4 ?_ (fun c u hc z => k4 _ _ (fun e => hc (e ▸ Nr)) (s3 _ _ (k12 _ _ (fun e => hc (sb _ e)) (k1 _ _ (fun e => hc (sb _ e)) z)))) t4⟩
    have h2 : ms.length = 2 * n := hlen
    refine TouA.mk' (k4 _ _ tr e13) l1 l2 nl lf r4 ⟨by rw [List.length_append]; show xs.length + 1 = _; omega, fun j hj => ?_⟩ (?_ : OrdA (fun c => No c ∧ H1 c ≠ none ∧ ∀ ys, H1 c ≠ some (.tup ys)) H4 o CO (msG ms i) (lsG ls i) (2 * (n + 1)) (tsG ls i ts)) (fun c h _ => sb c h.1) Nt Nr (fun h => nt h.1) (fun h => nr h.1) ?_ ?_
    · by_cases e : j = n
      · subst e
        refine ⟨p3, ?_, kt4 _ _ f3⟩
        rw [List.getElem?_append_right (by omega), hpl, Nat.sub_self]
        rfl
      · obtain ⟨u, u1, u2⟩ := px.at_ j (by omega)
        exact ⟨u, by rw [List.getElem?_append_left (by omega)]; exact u1, t4 _ _ u2⟩
    · unfold msG lsG tsG lsO
      rw [h2]
      refine oa2.kp fun c u h z => k4 _ _ (fun e => nr (e ▸ h.1)) (s3 _ _ z)
    · unfold msG
      rw [inl_len (by rw [inl_len (by omega)]; omega), inl_len (by omega)]
      omega
    · unfold msG
      have a := has_inl (ms := ms) (g := 2 * n) (k := i + 1) (by omega) x.has
      have b := has_inl (ms := inl ms (i + 1) (2 * n)) (g := 2 * n + 1) (k := i + 2) (by rw [inl_len (by omega)]; omega) a
      rw [h2]
      exact fun k hk => b k (by omega)
def spTOrder (CT CO : Addr) : Sp := fun vs H Q _ => ∃ (N : Addr → Prop) (t : Addr) (n : Nat) (ms ls : List Nat) (ts : Nat), vs = [.ref t] ∧ TouA N H t CT CO n ms ls ts ∧
  ∀ (u : Addr) (H' : Hp) (N' : Addr → Prop), H u = none → OrdA N' H' u CO ms ls (2 * n) ts → (∀ c, N' c → H c = none) → Same H H' → Q (.ref u) H'
theorem ok_torder (T : Txt K mg) (OC : TouC K CT) (m_copied : Met P w K mg base 3 CO "copied" (spCopied CO) []) (M : MAt K CT "order" "Tour.order" s_Tour_order ["self"]) : Met P w K mg base 4 CT "order" (spTOrder CT CO) [] := by
  refine M.met OC.cl sc_Tour_order (fun vs H Q E h => ?_) (fun f cdv A outer s H vs Q E hr h => ?_)
  · obtain ⟨N, t, n, ms, ls, ts, rfl, _⟩ := h
    rfl
  · obtain ⟨N, t, n, ms, ls, ts, rfl, x, q⟩ := h
    obtain ⟨dx, o, r, fs, xs, No, e1, l1, l2, nl, lf, e2, px, oa, sb, Nt, Nr, nt, nr, ct, al⟩ := x.ex
    obtain ⟨dy, fo, y1, yl⟩ := oa.ins
    refine ⟨_, (pss_one (ps_ret (pe_mt0 m_copied hr (by decide) (pe_fld (pv 0) rfl)))), ?_⟩
    exact ⟨_, rfl, t, CT, dx, fs, .ref o, rfl, e1, OC.cl, OC.n_order, l1, o, dy, fo, rfl, y1, yl _ (by decide), No, o, ms, ls, 2 * n, ts, rfl, oa, q⟩
/-- the makes by one of their marks -/
def byL (e : Nat) (ms : List Nat) : List Nat := (ms.filter fun k => k % 2 == e).map (· / 2)
theorem byL_snoc (e : Nat) (ms : List Nat) (k : Nat) : byL e (ms ++ [k]) = if k % 2 = e then byL e ms ++ [k / 2] else byL e ms := by
  unfold byL
  rw [List.filter_append, List.map_append]
  by_cases h : k % 2 = e
  · rw [if_pos h]
    congr 1
    simp [List.filter, h]
  · rw [if_neg h]
    have hb : (k % 2 == e) = false := by simpa using h
    have : (List.filter (fun k => k % 2 == e) [k]) = [] := by simp [List.filter, hb]
    rw [this]
    simp
theorem byL_len (e : Nat) (ms : List Nat) : (byL e ms).length ≤ ms.length := by
  unfold byL
  rw [List.length_map]
  exact List.length_filter_le _ _
def spBy (CT CO : Addr) : Sp := fun vs H Q _ => ∃ (N : Addr → Prop) (t D : Addr) (n : Nat) (ms ls : List Nat) (ts e : Nat) (kvs : List (Key × V)), vs = [.ref t, .ref D] ∧ TouA N H t CT CO n ms ls ts ∧ H D = some (.dK kvs) ∧ n ≤ 64 ∧
  (∀ k, k < 2 * n → valV kvs (Sum.inl (k : Int)) = if k % 2 = e then some (num (k / 2)) else none) ∧ ∀ (p : Addr) (H' : Hp), H p = none → Same H H' → H' p = some (.lst ((byL e ms).map num)) → Q (.ref p) H'
theorem ok_by (T : Txt K mg) (OC : TouC K CT) (m_marks : Met P w K mg base 1 CO "marks" (spMarks CO) []) (M : MAt K CT "_makes_by" "Tour._makes_by" s_Tour__makes_by ["self", "makes"]) : Met P w K mg base 2 CT "_makes_by" (spBy CT CO) [] := by
  refine M.met OC.cl sc_Tour__makes_by (fun vs H Q E h => ?_) (fun f cdv A outer s H vs Q E hr h => ?_)
  · obtain ⟨N, t, D, n, ms, ls, ts, e, kvs, rfl, _⟩ := h
    rfl
  · obtain ⟨N, t, D, n, ms, ls, ts, e, kvs, rfl, x, hD, hn, hv, q⟩ := h
    obtain ⟨dx, o, r, fs, xs, No, e1, l1, l2, nl, lf, e2, px, oa, sb, Nt, Nr, nt, nr, ct, al⟩ := x.ex
    obtain ⟨dy, fo, y1, yl⟩ := oa.ins
    have hlen := x.len
    refine ⟨_, (pss_one (ps_ret (pe_lc (own := [("mark", 2)]) (g := gName 2) (tt := _) rfl sc_Tour__makes_by.nd (pi_list (pe_mt0 m_marks hr (by decide) (pe_fld (pv 0) rfl))) (blkOk_by (own := [("mark", 2)]) (N := ["self", "makes", "mark"]) (sc := defScope s_Tour__makes_by) (by decide +kernel)) (fun _ _ _ _ _ => pg_name (i := 2) sc_Tour__makes_by.nd rfl (Or.inl rfl)) (fun _ _ _ _ _ => (pts_one (pt_cmp (pc_din (hu_of hr) (pv 2) (pv 1))))) (fun _ _ _ _ _ => (pe_dget (hu_of hr) (pv 1) (pv 2) (fun _ _ => rfl)))))), ?_⟩
    refine ⟨_, rfl, t, CT, dx, fs, .ref o, rfl, e1, OC.cl, OC.n_order, l1, o, dy, fo, rfl, y1, yl _ (by decide), No, o, ms, ls, 2 * n, ts, rfl, oa, fun p H1 n1 s1 hp => ⟨p, rfl, ⟨_, SqL.of hp⟩, fun L hL => ?_⟩⟩
    refine lc_it (walk_list (xs := ms.map num)) (fun k H' => Same H1 H' ∧ H' L = some (.lst ((byL e (ms.take k)).map num))) ⟨same_new hL, upd_same⟩ (fun k H' _ hP => SqL.of (hP.1 _ _ hp)) (fun k x2 H2 H3 hk hP hY => ?_) (fun H2 hP => ?_)
    · obtain ⟨s2, d2⟩ := hP
      obtain ⟨rfl, hx⟩ := hY
      rw [List.length_map] at hk
      obtain ⟨m, hm⟩ : ∃ m, ms[k]? = some m := ⟨_, List.getElem?_eq_getElem hk⟩
      rw [List.getElem?_map, hm] at hx
      cases (show some (num m) = some x2 from hx)
      have hmlt := oa.ok.lt _ _ hm
      have hv2 := hv m hmlt
      have hD3 := s2 _ _ (s1 _ _ hD)
      have g : DGet H3 D (num m) (valV kvs (Sum.inl (m : Int))) := DGet.k (k := Sum.inl (m : Int)) hD3
      refine ⟨rfl, ?_⟩
      refine ⟨_, rfl, _, rfl, D, _, rfl, g, ?_⟩
      have bl := byL_len e (ms.take k)
      rw [List.length_take] at bl
      by_cases z : m % 2 = e
      · rw [hv2, if_pos z]
        refine ⟨true, rfl, iteT ?_⟩
        rw [hv2, if_pos z] at g
        refine ⟨_, rfl, _, rfl, D, _, rfl, g, _, d2, ?_, fun c u w => ?_, ?_⟩
        · rw [List.length_map]
          exact small1000 (by omega)
        · rw [upd_ne (ne_of_none w hL)]
          exact s2 _ _ w
        · rw [upd_same, List.take_add_one, hm]
          show some (HO.lst _) = some (.lst ((byL e (ms.take k ++ [m])).map num))
          rw [byL_snoc, if_pos z, List.map_append]
          rfl
      · rw [hv2, if_neg z]
        refine ⟨false, rfl, iteF ?_⟩
        refine ⟨s2, ?_⟩
        rw [d2, List.take_add_one, hm]
        show some (HO.lst _) = some (.lst ((byL e (ms.take k ++ [m])).map num))
        rw [byL_snoc, if_neg z]
    · obtain ⟨s2, d2⟩ := hP
      rw [List.take_of_length_le (by rw [List.length_map]; omega)] at d2
      exact q L H2 (none_of' s1 hL) (s1.trans s2) d2
def spCom (e : Nat) (CT CO : Addr) : Sp := fun vs H Q _ => ∃ (N : Addr → Prop) (t : Addr) (n : Nat) (ms ls : List Nat) (ts : Nat), vs = [.ref t] ∧ TouA N H t CT CO n ms ls ts ∧ n ≤ 64 ∧
  ∀ (p : Addr) (H' : Hp), H p = none → Same H H' → H' p = some (.lst ((byL e ms).map num)) → Q (.ref p) H'
/-- the dict of the makes by their marks, so far -/
structure ByD (kvs : List (Key × V)) (e i : Nat) : Prop where
  len : kvs.length ≤ i
  at_ : ∀ k : Nat, valV kvs (Sum.inl (k : Int)) = if k % 2 = e ∧ k / 2 < i then some (num (k / 2)) else none
theorem ByD.nil (e : Nat) : ByD [] e 0 := ⟨Nat.le_refl _, fun k => by rw [if_neg (by omega)]; rfl⟩
theorem ByD.put {kvs : List (Key × V)} {e i : Nat} (h : ByD kvs e i) (he : e < 2) : ByD (putK kvs (Sum.inl ((2 * i + e : Nat) : Int)) (num i)) e (i + 1) := by
  refine ⟨by have := length_putK kvs (Sum.inl ((2 * i + e : Nat) : Int) : Key) (num i); have := h.len; omega, fun k => ?_⟩
  rw [valV_put]
  by_cases z : k = 2 * i + e
  · subst z
    rw [if_pos rfl, if_pos (by omega)]
    congr 2
    omega
  · rw [if_neg (key_ne z), h.at_ k]
    by_cases y : k % 2 = e ∧ k / 2 < i
    · rw [if_pos y, if_pos (by omega)]
    · rw [if_neg y, if_neg (by omega)]
theorem ok_coming (T : Txt K mg) (OC : TouC K CT) (m__makes_by : Met P w K mg base 2 CT "_makes_by" (spBy CT CO) []) (M : MAt K CT "coming" "Tour.coming" s_Tour_coming ["self"]) : Met P w K mg base 3 CT "coming" (spCom 0 CT CO) [] := by
  refine M.met OC.cl sc_Tour_coming (fun vs H Q E h => ?_) (fun f cdv A outer s H vs Q E hr h => ?_)
  · obtain ⟨N, t, n, ms, ls, ts, rfl, _⟩ := h
    rfl
  · obtain ⟨N, t, n, ms, ls, ts, rfl, x, hn, q⟩ := h
    obtain ⟨dx, o, r, fs, xs, No, e1, l1, l2, nl, lf, e2, px, oa, sb, Nt, Nr, nt, nr, ct, al⟩ := x.ex
    have hpl := px.len
    refine ⟨_, (pss_one (ps_ret (pe_mt m__makes_by hr (by decide) (pv 0) (pa_cons (pe_dc (own := [("make", 1), ("marks", 2)]) (g := gTup K 2 (gCons (gName 1) (gCons (gName 2) gNil))) (tt := tYes) rfl sc_Tour_coming.nd (pi_enum (by rfl) T.b_enumerate (pa_cons (pe_fld (pv 0) rfl) pa_nil)) (blkOk_by (own := [("make", 1), ("marks", 2)]) (N := ["self", "make", "marks"]) (sc := defScope s_Tour_coming) (by decide +kernel)) (fun _ _ _ _ _ => by exact (pg_tup (by rfl) (pgs_cons (pg_name (i := 1) sc_Tour_coming.nd rfl (Or.inl rfl)) (pgs_cons (pg_name (i := 2) sc_Tour_coming.nd rfl (Or.inl rfl)) pgs_nil)))) (fun _ _ _ _ _ => pts_nil) (fun _ _ _ _ _ => (pe_ix (show IxR _ (rIxT K) from ix_tup) (pv 2) pe_int (fun _ _ => rfl))) (fun _ _ _ _ _ => (pv 1))) pa_nil)))), ?_⟩
    refine ⟨_, rfl, t, dx, fs, rfl, e1, nl _ (by decide), ?_⟩
    refine ⟨_, rfl, t, CT, dx, fs, .ref r, rfl, e1, OC.cl, OC.n_marks, l2, r, _, rfl, SqL.of e2, fun D hD => ?_⟩
    refine dc_it (walk_enum (xs := xs)) (fun i H' => Same H H' ∧ ∃ kvs, H' D = some (.dK kvs) ∧ ByD kvs 0 i) ⟨same_new hD, [], upd_same, .nil 0⟩ (fun i H' _ hP => SqL.of (hP.1 _ _ e2)) (fun i v H2 H3 hk hP hY => ?_) (fun H2 hP => ?_)
    · obtain ⟨s2, kvs, d2, bd⟩ := hP
      obtain ⟨Tp, u, v', rfl, hT, rfl, hu, hv⟩ := hY
      replace hu : some (V.int (i : Nat)) = some u := hu
      replace hv : xs[i]? = some v' := hv
      cases (Option.some.inj hu)
      obtain ⟨p, p1, p2⟩ := px.at_ i (by omega)
      rw [p1] at hv
      cases (Option.some.inj hv)
      have g5 := kep (u := .tup [V.int (i : Nat), .ref p]) (s2 _ _ p2) hT
      have d3 := kep (u := .tup [V.int (i : Nat), .ref p]) d2 hT
      have s3 : Same H (upd H2 Tp (.tup [V.int (i : Nat), .ref p])) := fun c z w => kep (s2 c z w) hT
      refine ⟨Tp, _, rfl, SqT.of upd_same, rfl, _, _, rfl, _, _, rfl, rfl, rfl, ?_⟩
      refine yesI ?_
      refine ⟨_, rfl, p, _, _, num (2 * i), rfl, rfl, SqT.of g5, rfl, ?_⟩
      refine ⟨_, rfl, kvs, Sum.inl ((2 * i + 0 : Nat) : Int), rfl, d3, small1000 (by have := bd.len; omega), fun c u z => ?_, _, upd_same, bd.put (by decide)⟩
      rw [upd_ne (ne_of_none z hD)]
      exact s3 _ _ z
    · obtain ⟨s2, kvs, d2, bd⟩ := hP
      rw [hpl] at bd
      refine ⟨N, t, D, n, ms, ls, ts, 0, kvs, rfl, x.same s2, d2, hn, fun k hk => ?_, fun p H' np sp hp => q p H' (none_of' s2 np) (s2.trans sp) hp⟩
      rw [bd.at_ k]
      by_cases y : k % 2 = 0
      · rw [if_pos y, if_pos (by omega)]
      · rw [if_neg y, if_neg (by omega)]
theorem ok_leaving (T : Txt K mg) (OC : TouC K CT) (m__makes_by : Met P w K mg base 2 CT "_makes_by" (spBy CT CO) []) (M : MAt K CT "leaving" "Tour.leaving" s_Tour_leaving ["self"]) : Met P w K mg base 3 CT "leaving" (spCom 1 CT CO) [] := by
  refine M.met OC.cl sc_Tour_leaving (fun vs H Q E h => ?_) (fun f cdv A outer s H vs Q E hr h => ?_)
  · obtain ⟨N, t, n, ms, ls, ts, rfl, _⟩ := h
    rfl
  · obtain ⟨N, t, n, ms, ls, ts, rfl, x, hn, q⟩ := h
    obtain ⟨dx, o, r, fs, xs, No, e1, l1, l2, nl, lf, e2, px, oa, sb, Nt, Nr, nt, nr, ct, al⟩ := x.ex
    have hpl := px.len
    refine ⟨_, (pss_one (ps_ret (pe_mt m__makes_by hr (by decide) (pv 0) (pa_cons (pe_dc (own := [("make", 1), ("marks", 2)]) (g := gTup K 2 (gCons (gName 1) (gCons (gName 2) gNil))) (tt := tYes) rfl sc_Tour_leaving.nd (pi_enum (by rfl) T.b_enumerate (pa_cons (pe_fld (pv 0) rfl) pa_nil)) (blkOk_by (own := [("make", 1), ("marks", 2)]) (N := ["self", "make", "marks"]) (sc := defScope s_Tour_leaving) (by decide +kernel)) (fun _ _ _ _ _ => by exact (pg_tup (by rfl) (pgs_cons (pg_name (i := 1) sc_Tour_leaving.nd rfl (Or.inl rfl)) (pgs_cons (pg_name (i := 2) sc_Tour_leaving.nd rfl (Or.inl rfl)) pgs_nil)))) (fun _ _ _ _ _ => pts_nil) (fun _ _ _ _ _ => (pe_ix (show IxR _ (rIxT K) from ix_tup) (pv 2) pe_int (fun _ _ => rfl))) (fun _ _ _ _ _ => (pv 1))) pa_nil)))), ?_⟩
    refine ⟨_, rfl, t, dx, fs, rfl, e1, nl _ (by decide), ?_⟩
    refine ⟨_, rfl, t, CT, dx, fs, .ref r, rfl, e1, OC.cl, OC.n_marks, l2, r, _, rfl, SqL.of e2, fun D hD => ?_⟩
    refine dc_it (walk_enum (xs := xs)) (fun i H' => Same H H' ∧ ∃ kvs, H' D = some (.dK kvs) ∧ ByD kvs 1 i) ⟨same_new hD, [], upd_same, .nil 1⟩ (fun i H' _ hP => SqL.of (hP.1 _ _ e2)) (fun i v H2 H3 hk hP hY => ?_) (fun H2 hP => ?_)
    · obtain ⟨s2, kvs, d2, bd⟩ := hP
      obtain ⟨Tp, u, v', rfl, hT, rfl, hu, hv⟩ := hY
      replace hu : some (V.int (i : Nat)) = some u := hu
      replace hv : xs[i]? = some v' := hv
      cases (Option.some.inj hu)
      obtain ⟨p, p1, p2⟩ := px.at_ i (by omega)
      rw [p1] at hv
      cases (Option.some.inj hv)
      have g5 := kep (u := .tup [V.int (i : Nat), .ref p]) (s2 _ _ p2) hT
      have d3 := kep (u := .tup [V.int (i : Nat), .ref p]) d2 hT
      have s3 : Same H (upd H2 Tp (.tup [V.int (i : Nat), .ref p])) := fun c z w => kep (s2 c z w) hT
      refine ⟨Tp, _, rfl, SqT.of upd_same, rfl, _, _, rfl, _, _, rfl, rfl, rfl, ?_⟩
      refine yesI ?_
      refine ⟨_, rfl, p, _, _, num (2 * i + 1), rfl, rfl, SqT.of g5, rfl, ?_⟩
      refine ⟨_, rfl, kvs, Sum.inl ((2 * i + 1 : Nat) : Int), rfl, d3, small1000 (by have := bd.len; omega), fun c u z => ?_, _, upd_same, bd.put (by decide)⟩
      rw [upd_ne (ne_of_none z hD)]
      exact s3 _ _ z
    · obtain ⟨s2, kvs, d2, bd⟩ := hP
      rw [hpl] at bd
      refine ⟨N, t, D, n, ms, ls, ts, 1, kvs, rfl, x.same s2, d2, hn, fun k hk => ?_, fun p H' np sp hp => q p H' (none_of' s2 np) (s2.trans sp) hp⟩
      rw [bd.at_ k]
      by_cases y : k % 2 = 1
      · rw [if_pos y, if_pos (by omega)]
      · rw [if_neg y, if_neg (by omega)]
end
end K16
set_option maxHeartbeats 1000000
namespace K16
open PySem PySem.Spec PyProof.Rows L2 Gd Gx
open C8 (clsBody Met pe_mt pe_mt0)
theorem numsD {K : PySem.W.Frag} {H : Hp} : ∀ xs : List Nat, DpAll K H (xs.map num) (xs.map fun n => PyData.int (n : Nat))
  | [] => .nil
  | x :: xs => .cons (.int _) (numsD xs)
theorem numsOk {xs : List Nat} (h : ∀ x ∈ xs, x ≤ 1000) (l : xs.length ≤ 200) : Okd (.list (xs.map fun n => PyData.int (n : Nat))) 20000 1 := by
  refine (okList (m := 50) (e := 0) (n := 200) (fun d hd => ?_) (by rw [List.length_map]; exact l)).up (by decide) (by decide)
  obtain ⟨x, hx, rfl⟩ := List.mem_map.mp hd
  have := h x hx
  exact numOk (by omega)
theorem pairOk {a b : Nat} (ha : a ≤ 1000) (hb : b ≤ 1000) : Okd (.tuple [.int (a : Nat), .int (b : Nat)]) 400 1 := by
  refine (okTuple (ds := [.int (a : Nat), .int (b : Nat)]) (m := 50) (e := 0) (n := 2) (fun d hd => ?_) (Nat.le_refl 2)).up (by decide) (by decide)
  rcases List.mem_cons.mp hd with rfl | hd
  · exact numOk (by omega)
  · rcases List.mem_cons.mp hd with rfl | hd
    · exact numOk (by omega)
    · cases hd
theorem lay_pds : ∀ ps : List (Nat × Nat), PyData.canLayAll0 (ps.map pd) = true
  | [] => by simp [PyData.canLayAll0]
  | x :: xs => by simp [PyData.canLayAll0, PyData.canLay0, pd, lay_pds xs]
theorem dep_pds : ∀ ps : List (Nat × Nat), PyData.depthAll (ps.map pd) ≤ 1
  | [] => by simp [PyData.depthAll]
  | x :: xs => by
    have := dep_pds xs
    simp only [List.map_cons, PyData.depthAll, PyData.depth, pd]
    omega
theorem can_pds (ps : List (Nat × Nat)) : PyData.canLay0 (.list (ps.map pd)) = true := by
  simp only [PyData.canLay0]
  exact lay_pds ps
theorem sh_pds (ps : List (Nat × Nat)) : SeqAt.shaped (.list (ps.map pd)) = true := by
  unfold SeqAt.shaped
  rw [can_pds]
  have := dep_pds ps
  simp only [PyData.depth, Bool.true_and]
  exact decide_eq_true (by omega)
theorem byL_mem {e k : Nat} {ms : List Nat} (h : k ∈ byL e ms) : ∃ m, m ∈ ms ∧ k = m / 2 := by
  unfold byL at h
  obtain ⟨m, hm, rfl⟩ := List.mem_map.mp h
  exact ⟨m, (List.mem_filter.mp hm).1, rfl⟩
section
variable {P : Program} {w : World} {K : PySem.W.Frag} {mg : Str → Option Value} {base : Heap} {C CT CO : Addr}
def spTInit (CT CO : Addr) : Sp := fun vs H Q _ => ∃ (t dx : Addr), vs = [.ref t] ∧ H t = some (.ins CT dx []) ∧
  ∀ (H' : Hp) (N' : Addr → Prop), TouA N' H' t CT CO 1 [0, 1] [0, 512] 0 → (∀ c u, c ≠ t → H c = some u → H' c = some u) → (∀ c, N' c → c = t ∨ H c = none) → Q .non H'
theorem fn_tinit {f fO : Addr} {fdO : FuncData} {fd : FuncData} (T : Txt K mg) (OC : TouC K CT) (cO : mg "Order" = some (.ref CO)) (M_Order : Mk K CO fO) (B_Order : Binds K fdO ["self"] []) (G_Order : FnOk P w K mg base CX0 1 fO fdO ["self"] (spInit CO)) (m_behind : Met P w K mg base 3 CO "behind" (spBehind CO) [])
    (F : Fun K "__init__" "Tour.__init__" s_Tour___init__ f fd) : FnOk P w K mg base CX0 4 f fd ["self"] (spTInit CT CO) := by
  refine F.ok sc_Tour___init__ (fun vs H Q E h => ?_) (fun cdv A outer s H vs Q E hr h => ?_)
  · obtain ⟨t, dx, rfl, _⟩ := h
    rfl
  · obtain ⟨t, dx, rfl, e1, q⟩ := h
    refine ⟨_, (pss_cons (ps_fld (pv 0) (pe_make0 M_Order G_Order (hr.mono (by decide)) rfl cO B_Order .nil pass0) rfl)
      (pss_one (ps_fld (pv 0) (pe_lst (pa_cons (pe_tup (pa_cons pe_int (pa_cons (pe_mt m_behind hr (by decide) (pe_fld (pv 0) rfl) (pa_cons pe_int pa_nil)) pa_nil))) pa_nil)) rfl))), ?_⟩
    intro u du n1 n2 ne1
    refine ⟨u, du, rfl, upd_same, fun H1 N1 r1 k1 f1 => ⟨rfl, ?_⟩⟩
    have sm : Same H H1 := fun c x z => k1 c x (ne_of_none z n1) (by rw [upd_ne (ne_of_none z n1), upd_ne (ne_of_none z n2)]; exact z)
    have fr : ∀ c, N1 c → H c = none := fun c hc => by
      rcases f1 c hc with rfl | h
      · exact n1
      · exact none_of' (fun c x z => by rw [upd_ne (ne_of_none z n1), upd_ne (ne_of_none z n2)]; exact z) h
    have r1 := r1.cut
    have nt : ¬ (N1 t ∧ H1 t ≠ none) := fun h => by rw [fr t h.1] at e1; cases e1
    have e11 := sm _ _ e1
    refine ⟨_, rfl, t, CT, dx, [], rfl, e11, OC.cl, OC.n_order, by decide, ?_⟩
    have k2 : ∀ c x, c ≠ t → H1 c = some x → (upd H1 t (.ins CT dx (putF "_order" (.ref u) []))) c = some x := fun c x hc z => by
      rw [upd_ne hc]
      exact z
    have e2 : (upd H1 t (.ins CT dx (putF "_order" (.ref u) []))) t = some (.ins CT dx (putF "_order" (.ref u) [])) := upd_same
    generalize upd H1 t (.ins CT dx (putF "_order" (.ref u) [])) = H2 at *
    have r2 := r1.kp (H' := H2) fun c x hc z => k2 c x (fun e => nt (e ▸ hc)) z
    have lo : (putF "_order" (.ref u) ([] : List (Str × V))).lookup ("_order" : Str) = some (.ref u) := by rw [lookup_putF, if_pos rfl]
    obtain ⟨dy, fo, y1, yl⟩ := r2.ins
    refine ⟨_, rfl, t, CT, dx, _, .ref u, rfl, e2, OC.cl, OC.n_order, lo, u, dy, fo, rfl, y1, yl _ (by decide), ?_⟩
    refine ⟨_, u, [0], [0], 1, 0, 0, 0, rfl, r2, rfl, by decide, by decide, fun H3 r3 k3 => ?_⟩
    refine ⟨(by show 2 ≤ sizeLine; decide), fun p hp => ⟨(by show 1 ≤ sizeLine; decide), fun L hL => ?_⟩⟩
    have e3 := k3 _ _ nt e2
    have r3 := r3.cut
    have fr3 : ∀ c x, c ≠ t → H c = some x → H3 c = some x := fun c x hc z => k3 _ _ (fun h => by rw [fr c h.1] at z; cases z) (k2 _ _ hc (sm _ _ z))
    have p3 : (upd H3 p (.tup [.int 0, num 1])) p = some (.tup [num (2 * 0), num (2 * 0 + 1)]) := upd_same
    have s3 := same_new (o := .tup [.int 0, num 1]) hp
    generalize upd H3 p (.tup [.int 0, num 1]) = H4 at *
    have s4 := same_new (o := .lst [.ref p]) hL
    have L4 : (upd H4 L (.lst [.ref p])) L = some (.lst [.ref p]) := upd_same
    have nL3 := none_of' s3 hL
    generalize upd H4 L (.lst [.ref p]) = H5 at *
    have e5 := s4 _ _ (s3 _ _ e3)
    have tL : t ≠ L := ne_of_none e3 nL3
    have lf1 : (putF "_order" (.ref u) ([] : List (Str × V))).length ≤ 1 := length_putF _ _ _
    refine ⟨_, rfl, t, CT, dx, _, rfl, e5, OC.cl, OC.n_marks, Nat.lt_of_le_of_lt lf1 (by decide), ?_⟩
    have lf2 : (putF "_marks" (.ref L) (putF "_order" (.ref u) ([] : List (Str × V)))).length ≤ 2 := Nat.le_trans (length_putF _ _ _) (Nat.succ_le_succ lf1)
    have k6 : ∀ c x, c ≠ t → H5 c = some x → (upd H5 t (.ins CT dx (putF "_marks" (.ref L) (putF "_order" (.ref u) [])))) c = some x := fun c x hc z => by
      rw [upd_ne hc]
      exact z
    have e6 : (upd H5 t (.ins CT dx (putF "_marks" (.ref L) (putF "_order" (.ref u) [])))) t = some (.ins CT dx (putF "_marks" (.ref L) (putF "_order" (.ref u) []))) := upd_same
    generalize upd H5 t (.ins CT dx (putF "_marks" (.ref L) (putF "_order" (.ref u) []))) = H6 at *
    refine q H6 (fun c => c = t ∨ c = L ∨ N1 c) (TouA.mk' (No := fun c => (N1 c ∧ H1 c ≠ none) ∧ H3 c ≠ none) e6 ?_ ?_ (fun g hg => ?_) (Nat.le_trans lf2 (by decide)) (k6 _ _ tL.symm L4) ⟨rfl, fun j hj => ?_⟩ (r3.kp fun c x hc z => k6 _ _ (fun e => nt (e ▸ hc.1)) (s4 _ _ (s3 _ _ z))) (fun c h _ => .inr (.inr h.1.1)) (.inl rfl) (.inr (.inl rfl)) (fun h => nt h.1) (fun h => h.2 nL3) rfl (fun k hk => ?_)) (fun c x hc z => k6 _ _ hc (s4 _ _ (s3 _ _ (fr3 c x hc z)))) (fun c hc => ?_)
    · rw [lookup_putF, if_neg (by decide), lookup_putF, if_pos rfl]
    · rw [lookup_putF, if_pos rfl]
    · rw [lookup_putF, if_neg (fun z => hg (by rw [z]; decide)), lookup_putF, if_neg (fun z => hg (by rw [z]; decide))]
      rfl
    · obtain rfl : j = 0 := by omega
      exact ⟨p, rfl, k6 _ _ (fun e => by rw [e, e3] at hp; cases hp) (s4 _ _ p3)⟩
    · rcases (by omega : k = 0 ∨ k = 1) with rfl | rfl
      · exact ⟨0, rfl⟩
      · exact ⟨1, rfl⟩
    · rcases hc with rfl | rfl | h
      · exact .inl rfl
      · right
        cases hx : H c with
        | none => rfl
        | some x =>
          rw [fr3 c x tL.symm hx] at nL3
          cases nL3
      · exact .inr (fr c h)
def spTCopied (CT CO : Addr) : Sp := fun vs H Q _ => ∃ (N : Addr → Prop) (t : Addr) (n : Nat) (ms ls : List Nat) (ts : Nat), vs = [.ref t] ∧ TouA N H t CT CO n ms ls ts ∧
  ∀ (u : Addr) (H' : Hp) (N' : Addr → Prop), H u = none → TouA N' H' u CT CO n ms ls ts → (∀ c, N' c → H c = none) → Same H H' → Q (.ref u) H'
theorem ok_tcopied {fT : Addr} {fdT : FuncData} (T : Txt K mg) (OC : TouC K CT) (cT : mg "Tour" = some (.ref CT)) (M_Tour : Mk K CT fT) (B_Tour : Binds K fdT ["self"] []) (G_Tour : FnOk P w K mg base CX0 4 fT fdT ["self"] (spTInit CT CO)) (m_copied : Met P w K mg base 3 CO "copied" (spCopied CO) [])
    (M : MAt K CT "copied" "Tour.copied" s_Tour_copied ["self"]) : Met P w K mg base 6 CT "copied" (spTCopied CT CO) [] := by
  refine M.met OC.cl sc_Tour_copied (fun vs H Q E h => ?_) (fun f cdv A outer s H vs Q E hr h => ?_)
  · obtain ⟨N, t, n, ms, ls, ts, rfl, _⟩ := h
    rfl
  · obtain ⟨N, t, n, ms, ls, ts, rfl, x, q⟩ := h
    obtain ⟨dx, o, r, fs, xs, No, e1, l1, l2, nl, lf, e2, px, oa, sb, Nt, Nr, nt, nr, ct, al⟩ := x.ex
    refine ⟨_, (pss_cons (ps_set (i := 1) sc_Tour_copied.nd rfl (Or.inl rfl) (pe_make0 M_Tour G_Tour (hr.mono (by decide)) rfl cT B_Tour .nil pass0))
      (pss_cons (ps_fld (pv 1) (pe_mt0 m_copied hr (by decide) (pe_fld (pv 0) rfl)) rfl)
      (pss_cons (ps_fld (pv 1) (pe_callTy call_list_of (by rfl) T.t_list boot_list_ (pa_cons (pe_fld (pv 0) rfl) pa_nil)) rfl)
      (pss_one (ps_ret (pv 1)))))), ?_⟩
    intro u du n1 n2 ne
    refine ⟨u, du, rfl, upd_same, fun H1 N1 x1 k1 f1 => ⟨rfl, ?_⟩⟩
    have sm : Same H H1 := fun c x z => k1 c x (ne_of_none z n1) (by rw [upd_ne (ne_of_none z n1), upd_ne (ne_of_none z n2)]; exact z)
    obtain ⟨dy, o1, r1, gs, xs1, No1, y1, z1, z2, zl, zf, y2, px1, oa1, sb1, Nt1, Nr1, nt1, nr1, ct1, al1⟩ := x1.ex
    have oa2 := oa.kp (H' := H1) fun c x _ z => sm c x z
    obtain ⟨dyo, fo, w1, wl⟩ := oa2.ins
    refine ⟨_, rfl, t, CT, dx, fs, .ref o, rfl, sm _ _ e1, OC.cl, OC.n_order, l1, o, dyo, fo, rfl, w1, wl _ (by decide), No, o, ms, ls, 2 * n, ts, rfl, oa2, fun v H2 N2 nv oa3 f2 s2 => ?_⟩
    have y12 := s2 _ _ y1
    refine ⟨_, rfl, u, CT, dy, gs, rfl, y12, OC.cl, OC.n_order, by omega, ?_⟩
    have k3 : ∀ c x, c ≠ u → H2 c = some x → (upd H2 u (.ins CT dy (putF "_order" (.ref v) gs))) c = some x := fun c x hc z => by
      rw [upd_ne hc]
      exact z
    have e3 : (upd H2 u (.ins CT dy (putF "_order" (.ref v) gs))) u = some (.ins CT dy (putF "_order" (.ref v) gs)) := upd_same
    generalize upd H2 u (.ins CT dy (putF "_order" (.ref v) gs)) = H3 at *
    have sm3 : Same H H3 := fun c x z => k3 c x (ne_of_none z n1) (s2 _ _ (sm _ _ z))
    have g1 := putF_len (v := .ref v) z1
    refine ⟨_, rfl, t, CT, dx, fs, .ref r, rfl, sm3 _ _ e1, OC.cl, OC.n_marks, l2, r, _, rfl, .inl (SqL.of (sm3 _ _ e2)), fun p hp => ?_⟩
    have s4 := same_new (o := .lst xs) hp
    have p4 : (upd H3 p (.lst xs)) p = some (.lst xs) := upd_same
    generalize upd H3 p (.lst xs) = H4 at *
    have e4 := s4 _ _ e3
    have lm : (putF "_order" (.ref v) gs).lookup ("_marks" : Str) = some (.ref r1) := by rw [lookup_putF, if_neg (by decide)]; exact z2
    refine ⟨_, rfl, u, CT, dy, _, rfl, e4, OC.cl, OC.n_marks, by omega, ?_⟩
    have g2 := putF_len (v := .ref p) lm
    have k5 : ∀ c x, c ≠ u → H4 c = some x → (upd H4 u (.ins CT dy (putF "_marks" (.ref p) (putF "_order" (.ref v) gs)))) c = some x := fun c x hc z => by
      rw [upd_ne hc]
      exact z
    have e5 : (upd H4 u (.ins CT dy (putF "_marks" (.ref p) (putF "_order" (.ref v) gs)))) u = some (.ins CT dy (putF "_marks" (.ref p) (putF "_order" (.ref v) gs))) := upd_same
    generalize upd H4 u (.ins CT dy (putF "_marks" (.ref p) (putF "_order" (.ref v) gs))) = H5 at *
    have sm5 : Same H H5 := fun c x z => k5 c x (ne_of_none z n1) (s4 _ _ (sm3 _ _ z))
    have pu : p ≠ u := fun e => by rw [e, e3] at hp; cases hp
    have np := none_of' sm3 hp
    have nu2 : ¬ (N2 u ∧ H2 u ≠ none) := fun h => by
      have := f2 _ h.1
      rw [y1] at this
      cases this
    have oa3 := oa3.cut
    have np2 : ¬ (N2 p ∧ H2 p ≠ none) := fun h => by
      cases hx : H2 p with
      | none => exact h.2 hx
      | some x =>
        rw [k3 _ _ pu hx] at hp
        cases hp
    refine ⟨_, rfl, q u H5 (fun c => c = u ∨ c = p ∨ N2 c) n1 (TouA.mk' (No := fun c => N2 c ∧ H2 c ≠ none) e5 ?_ ?_ (fun g hg => ?_) (by omega) (k5 _ _ pu p4) (px.kp (KT.of sm5)) (oa3.kp fun c x hc z => k5 _ _ (fun e => nu2 (e ▸ hc)) (s4 _ _ (k3 _ _ (fun e => nu2 (e ▸ hc)) z))) (fun c h _ => .inr (.inr h.1)) (.inl rfl) (.inr (.inl rfl)) nu2 np2 x.len x.has) (fun c hc => ?_) sm5⟩
    · rw [lookup_putF, if_neg (by decide), lookup_putF, if_pos rfl]
    · rw [lookup_putF, if_pos rfl]
    · rw [lookup_putF, if_neg (fun z => hg (by rw [z]; decide)), lookup_putF, if_neg (fun z => hg (by rw [z]; decide))]
      exact zl g hg
    · rcases hc with rfl | rfl | h
      · exact n1
      · exact np
      · exact none_of' sm (f2 _ h)
end
end K16
set_option maxHeartbeats 1000000
namespace K16
open PySem PySem.Spec PyProof.Rows L2 Gd Gx
open C8 (clsBody Met pe_mt pe_mt0)
/-- what the written part says of the class of orders, asked by isinstance -/
structure IsO (K : PySem.W.Frag) (C : Addr) : Prop where
  ha : PySem.W.findIn K (.ref C) "__class__" = some (some (.builtin "object.__class__"))
  hn : PySem.W.specialIn K (.builtin "object.__class__") "__get__" = some (some (.builtin "getset_descriptor.__get__"))
  ht : PySem.W.takesIn K (.builtin "object.__class__") = some true
  hm : PySem.W.mroIn K C (.type "object") = some true
  hk : PySem.W.kitOne K (.ref C) (.ref C) = some true
section
variable {P : Program} {w : World} {K : PySem.W.Frag} {mg : Str → Option Value} {base : Heap} {C CT CO : Addr}
def spTimes (C : Addr) : Sp := fun vs H Q _ => ∃ (N : Addr → Prop) (o : Addr) (ms ls : List Nat) (gv ts : Nat), vs = [.ref o] ∧ OrdA N H o C ms ls gv ts ∧ Q (num ts) H
theorem ok_times (T : Txt K mg) (OC : OrdC K C) (M : MAt K C "anew" "Order.anew" s_Order_anew ["self"]) : Met P w K mg base 1 C "anew" (spTimes C) [] := by
  refine M.met OC.cl sc_Order_anew (fun vs H Q E h => ?_) (fun f cdv A outer s H vs Q E hr h => ?_)
  · obtain ⟨N, o, ms, ls, gv, ts, rfl, _⟩ := h
    rfl
  · obtain ⟨N, o, ms, ls, gv, ts, rfl, r, q⟩ := h
    obtain ⟨dx, m, d, fs, kvs, e1, l1, l2, l3, l4, nl, e2, e3, dc, lf, No, Nm, Nd⟩ := r.ex
    refine ⟨_, (pss_one (ps_ret (pe_fld (pv 0) rfl))), ?_⟩
    exact ⟨_, rfl, o, C, dx, fs, num ts, rfl, e1, OC.cl, OC.n_times, l4, q⟩
def spLR (CT CO : Addr) : Sp := fun vs H Q _ => ∃ (N : Addr → Prop) (t d r : Addr) (n : Nat) (ms ls : List Nat) (ts : Nat), vs = [.ref t, .ref d] ∧ TouA N H t CT CO n ms ls ts ∧ Mod H d r ms ls ts ∧ n ≤ 64 ∧ ts ≤ 1000 ∧ ∀ H', Same H H' → Q (.bl true) H'
theorem ok_lr (T : Txt K mg) (OC : OrdC K CO) (IO : IsO K CO) (cO : mg "Order" = some (.ref CO)) (m_order : Met P w K mg base 4 CT "order" (spTOrder CT CO) []) (m_coming : Met P w K mg base 3 CT "coming" (spCom 0 CT CO) []) (m_leaving : Met P w K mg base 3 CT "leaving" (spCom 1 CT CO) [])
    (m_marks : Met P w K mg base 1 CO "marks" (spMarks CO) []) (m_label : Met P w K mg base 3 CO "label" (spLabel CO) []) (m_anew : Met P w K mg base 1 CO "anew" (spTimes CO) []) (m_behind : Met P w K mg base 3 CO "behind" (spBehind CO) [])
    (D : DefAt K mg "_law_lists_right" s__law_lists_right ["_law_tour", "_law_model"]) : CalG P w K mg base 5 "_law_lists_right" (spLR CT CO) := by
  refine D.cal sc__law_lists_right (fun vs H Q E h => ?_) (fun f cdv A outer s H vs Q E hG hr h => ?_)
  · obtain ⟨N, t, d, r, n, ms, ls, ts, rfl, _⟩ := h
    rfl
  · obtain ⟨N, t, d, r, n, ms, ls, ts, rfl, x, ⟨kvs, h1, h2, h3, h5, xs, e1, row⟩, hn, hts, q⟩ := h
    have ok := x.ok
    have hlen := x.len
    have hpos := ok.pos
    have hl1 := row.lm
    have hl2 := row.ll
    have okm := numsOk (xs := ms) (fun y hy => by
      obtain ⟨j, hj⟩ := List.getElem?_of_mem hy
      have := ok.lt _ _ hj
      omega) ok.few
    have okb : ∀ e, Okd (.list ((byL e ms).map fun n => PyData.int (n : Nat))) 20000 1 := fun e => numsOk (fun y hy => by
      obtain ⟨m, hm, rfl⟩ := byL_mem hy
      obtain ⟨j, hj⟩ := List.getElem?_of_mem hm
      have := ok.lt _ _ hj
      omega) (Nat.le_trans (byL_len e ms) ok.few)
    refine ⟨_, (pss_cons (ps_setLc (i := 2) (own := [("_law_mark", 7), ("_law_label", 8)]) (g := gTup K 2 (gCons (gName 7) (gCons (gName 8) gNil))) (tt := tYes) rfl sc__law_lists_right.nd rfl rfl (sw_true rfl rfl rfl (by decide +kernel)) (pi_list (pe_dget (hu_of hr) (pv 1) pe_str (fun _ _ => rfl))) (blkOk_by (own := [("_law_mark", 7), ("_law_label", 8)]) (N := ["_law_tour", "_law_model", "_law_row", "_law_lap", "_law_order", "_law_coming", "_law_leaving", "_law_mark", "_law_label"]) (sc := defScope s__law_lists_right) (by decide +kernel)) (fun _ _ _ _ _ => by exact (pg_tup (by rfl) (pgs_cons (pg_name (i := 7) sc__law_lists_right.nd rfl (Or.inl rfl)) (pgs_cons (pg_name (i := 8) sc__law_lists_right.nd rfl (Or.inl rfl)) pgs_nil)))) (fun _ _ _ _ _ => pts_nil) (fun _ _ _ _ _ => (pv 7)))
      (pss_cons (ps_for PassesOwn.never rfl (pi_range1 rfl T.b_range (pa_cons pe_int pa_nil)) (pg_name (i := 3) sc__law_lists_right.nd rfl (Or.inl rfl))
          (pss_cons (ps_set (i := 4) sc__law_lists_right.nd rfl (Or.inr rfl) (pe_mt0 m_order hr (by decide) (pv 0)))
          (pss_cons (ps_set (i := 5) sc__law_lists_right.nd rfl (Or.inl rfl) (pe_mt0 m_coming hr (by decide) (pv 0)))
          (pss_cons (ps_set (i := 6) sc__law_lists_right.nd rfl (Or.inl rfl) (pe_mt0 m_leaving hr (by decide) (pv 0)))
          (pss_cons (ps_if (PW.pt (pw_or (pt_not (pt_val (pe_callB call_isi (by rfl) T.b_isinstance boot_isinstance_ (pa_cons (pv 4) (pa_cons (pe_glob (v := .ref CO) (by rfl) cO rfl) pa_nil))))) (pw_or1 (pt_cmpR op_ne (pe_callB (call_repr hG (hu64 hr)) (by rfl) T.b_repr boot_repr_ (pa_cons (pe_mt0 m_marks hr (by decide) (pv 4)) pa_nil)) (pe_callB (call_repr hG (hu64 hr)) (by rfl) T.b_repr boot_repr_ (pa_cons (pv 2) pa_nil)) (nomark _)))))
              (pss_one (ps_ret pe_bl)) pss_nil)
          (pss_cons (ps_if (PW.pt (pw_or (pt_cmpR (op_neD (hu64 hr)) (pe_lc (own := [("_law_mark", 7)]) (g := gName 7) (tt := tYes) rfl sc__law_lists_right.nd (pi_list (pv 2)) (blkOk_by (own := [("_law_mark", 7)]) (N := ["_law_tour", "_law_model", "_law_row", "_law_lap", "_law_order", "_law_coming", "_law_leaving", "_law_mark", "_law_label"]) (sc := defScope s__law_lists_right) (by decide +kernel)) (fun _ _ _ _ _ => pg_name (i := 7) sc__law_lists_right.nd rfl (Or.inl rfl)) (fun _ _ _ _ _ => pts_nil) (fun _ _ _ _ _ => (pe_tup (pa_cons (pv 7) (pa_cons (pe_mt m_label hr (by decide) (pv 4) (pa_cons (pv 7) pa_nil)) pa_nil))))) (pe_dget (hu_of hr) (pv 1) pe_str (fun _ _ => rfl)) (nomark _)) (pw_or1 (pt_cmpR op_ne (pe_mt0 m_anew hr (by decide) (pv 4)) (pe_dget (hu_of hr) (pv 1) pe_str (fun _ _ => rfl)) (nomark _)))))
              (pss_one (ps_ret pe_bl)) pss_nil)
          (pss_cons (ps_if (pt_cmpR op_ne (pe_callB (call_repr hG (hu64 hr)) (by rfl) T.b_repr boot_repr_ (pa_cons (pv 5) pa_nil)) (pe_callB (call_repr hG (hu64 hr)) (by rfl) T.b_repr boot_repr_ (pa_cons (pe_lc (own := [("_law_mark", 7)]) (g := gName 7) (tt := _) rfl sc__law_lists_right.nd (pi_list (pv 2)) (blkOk_by (own := [("_law_mark", 7)]) (N := ["_law_tour", "_law_model", "_law_row", "_law_lap", "_law_order", "_law_coming", "_law_leaving", "_law_mark", "_law_label"]) (sc := defScope s__law_lists_right) (by decide +kernel)) (fun _ _ _ _ _ => pg_name (i := 7) sc__law_lists_right.nd rfl (Or.inl rfl)) (fun _ _ _ _ _ => (pts_one (pt_cmpR op_eq (pe_op op_mod (pv 7) pe_int) pe_int (nomark _)))) (fun _ _ _ _ _ => (pe_op op_fdiv (pv 7) pe_int))) pa_nil)) (nomark _))
              (pss_one (ps_ret pe_bl)) pss_nil)
          (pss_cons (ps_if (pt_cmpR op_ne (pe_callB (call_repr hG (hu64 hr)) (by rfl) T.b_repr boot_repr_ (pa_cons (pv 6) pa_nil)) (pe_callB (call_repr hG (hu64 hr)) (by rfl) T.b_repr boot_repr_ (pa_cons (pe_lc (own := [("_law_mark", 7)]) (g := gName 7) (tt := _) rfl sc__law_lists_right.nd (pi_list (pv 2)) (blkOk_by (own := [("_law_mark", 7)]) (N := ["_law_tour", "_law_model", "_law_row", "_law_lap", "_law_order", "_law_coming", "_law_leaving", "_law_mark", "_law_label"]) (sc := defScope s__law_lists_right) (by decide +kernel)) (fun _ _ _ _ _ => pg_name (i := 7) sc__law_lists_right.nd rfl (Or.inl rfl)) (fun _ _ _ _ _ => (pts_one (pt_cmpR op_eq (pe_op op_mod (pv 7) pe_int) pe_int (nomark _)))) (fun _ _ _ _ _ => (pe_op op_fdiv (pv 7) pe_int))) pa_nil)) (nomark _))
              (pss_one (ps_ret pe_bl)) pss_nil)
          (pss_cons (ps_expr (pe_mt m_behind hr (by decide) (pv 4) (pa_cons (pe_ix ix_list (pv 2) (pe_op op_fdiv (pe_callB call_len (by rfl) T.b_len boot_len_ (pa_cons (pv 2) pa_nil)) pe_int) (fun _ _ => rfl)) pa_nil)))
          (pss_cons (ps_expr (pe_bm0 PySem.F.plainAttrs_list PySem.F.slot_list_clear PySem.F.type_list_clear mt_clear (pv 5)))
          (pss_one (ps_expr (pe_bm PySem.F.plainAttrs_list PySem.F.slot_list_append PySem.F.type_list_append mt_append (pv 6) (pa_cons pe_int pa_nil))))))))))))))
      (pss_one (ps_ret pe_bl)))), ?_⟩
    refine ⟨_, rfl, d, _, rfl, dgs h1 h3, r, rfl, ⟨_, SqL.of e1⟩, fun L hL => ?_⟩
    refine lc_it (walk_list (xs := xs)) (fun k H' => Same H H' ∧ H' L = some (.lst ((ms.take k).map num))) ⟨same_new hL, upd_same⟩ (fun i H' _ hP => SqL.of (hP.1 _ _ e1)) (fun k x H1 H2 hk hP hY => ?_) (fun H1 hP => ?_)
    · obtain ⟨s1, d1⟩ := hP
      obtain ⟨rfl, hx⟩ := hY
      obtain ⟨m, l, t, g1, g2, g3, g4⟩ := row.get (i := k) (by omega)
      rw [g3] at hx
      cases (Option.some.inj hx)
      refine ⟨t, _, rfl, SqT.of (s1 _ _ g4), rfl, _, _, rfl, _, _, rfl, rfl, rfl, ?_⟩
      refine yesI ?_
      refine ⟨_, rfl, _, d1, ?_, fun c u z => ?_, ?_⟩
      · rw [List.length_map, List.length_take]
        have := ok.few
        exact small1000 (by omega)
      · rw [upd_ne (ne_of_none z hL)]
        exact s1 _ _ z
      · rw [upd_same, List.take_add_one, g1, List.map_append]
        rfl
    obtain ⟨s1, dL⟩ := hP
    rw [List.take_of_length_le (by omega)] at dL
    have few := ok.few
    have hlm : (ms.map num).length = ms.length := List.length_map _
    refine ⟨_, rfl, by decide, by decide, ?_⟩
    refine for_range (lo := 0) (fun m σ H' => Same H1 H' ∧ ∃ y3 y4 y5 y6 : Option V, σ = [some (.ref t), some (.ref d), some (.ref L), y3, y4, y5, y6, none, none])
      ⟨fun _ _ z => z, none, none, none, none, rfl⟩ (fun m σ H2 hm hP => ?_) (fun σ H2 hP => q H2 (s1.trans hP.1))
    obtain ⟨s2, y3, y4, y5, y6, rfl⟩ := hP
    have s02 := s1.trans s2
    have x2 := x.same s02
    obtain ⟨dx, fs, x1, nl⟩ := x2.ins
    refine ⟨_, rfl, t, dx, fs, rfl, x1, nl _ (by decide), N, t, n, ms, ls, ts, rfl, x2, fun u H3 N3 nu oa3 f3 s3 => ?_⟩
    have x3 := x2.same s3
    refine ⟨_, rfl, t, dx, fs, rfl, s3 _ _ x1, nl _ (by decide), N, t, n, ms, ls, ts, rfl, x3, hn, fun p H4 np s4 hp => ?_⟩
    have x4 := x3.same s4
    refine ⟨_, rfl, t, dx, fs, rfl, s4 _ _ (s3 _ _ x1), nl _ (by decide), N, t, n, ms, ls, ts, rfl, x4, hn, fun p2 H5 np2 s5 hp2 => ?_⟩
    have s35 := s4.trans s5
    have s25 := s3.trans s35
    have s05 := s02.trans s25
    have hp5 := s5 _ _ hp
    have dL5 := s25 _ _ (s2 _ _ dL)
    obtain ⟨N5, oa5, fN, al5⟩ : ∃ N5 : Addr → Prop, OrdA N5 H5 u CO ms ls (2 * n) ts ∧ (∀ c, N5 c → H2 c = none) ∧ ∀ c, N5 c → H3 c ≠ none := ⟨_, oa3.cut.kp fun c x _ z => s35 c x z, fun c h => f3 c h.1, fun c h => h.2⟩
    obtain ⟨du, fu, u1, ul⟩ := oa5.ins
    -- the order
    refine ⟨_, rfl, .ref u, .ref CO, .ref CO, .ref CO, true, rfl, .own CO, .base (.ins u1 OC.cl IO.ha IO.hn IO.ht IO.hm), IO.hk, _, rfl, iteF ?_⟩
    refine ⟨_, rfl, u, du, fu, rfl, u1, ul _ (by decide), N5, u, ms, ls, 2 * n, ts, rfl, oa5, fun p3 H6 np3 s6 hp3 => ?_⟩
    have dL6 := s6 _ _ dL5
    refine ⟨_, _, rfl, .d1 (.dp (.lst (SqL.of hp3) (numsD _))), okm.sh, Nat.le_trans okm.ln (by decide), Nat.le_trans okm.dp (by decide), ?_⟩
    refine ⟨_, rfl, _, _, rfl, .d1 (.dp (.lst (SqL.of dL6) (numsD _))), okm.sh, Nat.le_trans okm.ln (by decide), Nat.le_trans okm.dp (by decide), rfl, _, rfl, ifSame ?_⟩
    have oa6 := oa5.kp fun c x _ z => s6 c x z
    have u16 := s6 _ _ u1
    -- its labels
    refine ⟨_, rfl, L, rfl, ⟨_, SqL.of dL6⟩, fun B hB => ?_⟩
    refine lc_it (walk_list (xs := ms.map num)) (fun k H' => Same H6 H' ∧ ∃ ys, H' B = some (.lst ys) ∧ RowX H' ys (ms.take k) (ls.take k)) ⟨same_new hB, [], upd_same, ⟨rfl, rfl, fun a b c z => by cases z⟩⟩ (fun k H' _ hP => SqL.of (hP.1 _ _ dL6)) (fun k v H7 H8 hk hP hY => ?_) (fun H7 hP => ?_)
    · obtain ⟨s7, ys, d2, rw2⟩ := hP
      obtain ⟨rfl, hx⟩ := hY
      rw [hlm] at hk
      obtain ⟨m, l, t2, a1, a2, a3, a4⟩ := row.get hk
      rw [List.getElem?_map, a1] at hx
      cases (show some (num m) = some v from hx)
      refine ⟨rfl, yesI ?_⟩
      refine ⟨_, rfl, _, rfl, u, du, fu, rfl, s7 _ _ u16, ul _ (by decide), _, rfl, N5, u, ms, ls, 2 * n, ts, k, m, l, rfl, oa6.kp (fun c u _ z => s7 c u z), a1, a2, (by show 2 ≤ sizeLine; decide), fun t3 ht3 => ?_⟩
      have s78 := same_new (o := .tup [num m, num l]) ht3
      have f3 : (upd H8 t3 (.tup [num m, num l])) t3 = some (.tup [num m, num l]) := upd_same
      refine ⟨_, s78 _ _ d2, ?_, ?_⟩
      · have := rw2.lm
        rw [List.length_take] at this
        exact small1000 (by omega)
      · have rw4 := rw2.kp (KT.of s78)
        have d4 := s78 _ _ d2
        have s9 := s7.trans s78
        generalize upd H8 t3 (.tup [num m, num l]) = H9 at *
        refine ⟨fun c u z => ?_, _, upd_same, (rw4.step a1 a2 f3).kp fun c u z => ?_⟩
        · rw [upd_ne (ne_of_none z hB)]
          exact s9 _ _ z
        · rw [upd_ne (fun e : c = B => by rw [e, d4] at z; cases z)]
          exact z
    obtain ⟨s7, ys, dB, rw2⟩ := hP
    rw [hlm, List.take_of_length_le (Nat.le_refl _), List.take_of_length_le (by omega)] at rw2
    have s57 := s6.trans s7
    have s07 := s05.trans s57
    refine ⟨_, rfl, d, _, rfl, dgs (s07 _ _ h1) h3, _, _, .lst (SqL.of dB) rw2.dp, .lst (SqL.of (s07 _ _ e1)) (row.kp (KT.of s07)).dp, sh_pds _, sh_pds _, _, rfl, ?_⟩
    rw [PySem.SeqAt.eqv_refl _ (can_pds _)]
    refine iteF ?_
    have oa7 := oa6.kp fun c x _ z => s7 c x z
    have u17 := s7 _ _ u16
    refine ⟨_, rfl, u, du, fu, rfl, u17, ul _ (by decide), N5, u, ms, ls, 2 * n, ts, rfl, oa7, ?_⟩
    refine ⟨_, rfl, d, _, rfl, dgs (s07 _ _ h1) h5, rfl, _, rfl, ifSame ?_⟩
    have dL7 := s7 _ _ dL6
    have hp7 := s57 _ _ hp5
    have hp27 := s57 _ _ hp2
    -- by coming
    refine ⟨_, rfl, _, _, rfl, .d1 (.dp (.lst (SqL.of hp7) (numsD _))), (okb 0).sh, Nat.le_trans (okb 0).ln (by decide), Nat.le_trans (okb 0).dp (by decide), ?_⟩
    refine ⟨_, rfl, L, rfl, ⟨_, SqL.of dL7⟩, fun B2 hB2 => ?_⟩
    refine lc_it (walk_list (xs := ms.map num)) (fun k H' => Same H7 H' ∧ H' B2 = some (.lst ((byL 0 (ms.take k)).map num))) ⟨same_new hB2, upd_same⟩ (fun k H' _ hP => SqL.of (hP.1 _ _ dL7)) (fun k v H8 H9 hk hP hY => ?_) (fun H8 hP => ?_)
    · obtain ⟨s8, d2⟩ := hP
      obtain ⟨rfl, hx⟩ := hY
      rw [hlm] at hk
      obtain ⟨m, hm⟩ : ∃ m, ms[k]? = some m := ⟨_, List.getElem?_eq_getElem hk⟩
      rw [List.getElem?_map, hm] at hx
      cases (show some (num m) = some v from hx)
      have bl := byL_len 0 (ms.take k)
      rw [List.length_take] at bl
      refine ⟨rfl, _, rfl, _, _, rfl, rfl, (by show (0 : Int) < 2; decide), rfl, _, rfl, ?_⟩
      by_cases z : m % 2 = 0
      · refine ite2 (fun hc => ?_) (fun hc => absurd (decide_eq_true (by show V.int _ = V.int _; congr 1; omega)) hc)
        · refine ⟨_, rfl, _, _, rfl, rfl, ⟨by decide, by decide⟩, _, d2, ?_, fun c u w => ?_, ?_⟩
          · rw [List.length_map]
            exact small1000 (by omega)
          · rw [upd_ne (ne_of_none w hB2)]
            exact s8 _ _ w
          · rw [upd_same, List.take_add_one, hm]
            show some (HO.lst _) = some (.lst ((byL 0 (ms.take k ++ [m])).map num))
            rw [byL_snoc, if_pos z, List.map_append]
            rfl
      · refine ite2 (fun hc => absurd (of_decide_eq_true hc) (fun y => z (by have := V.int.inj y; omega))) (fun hc => ?_)
        · refine ⟨s8, ?_⟩
          rw [d2, List.take_add_one, hm]
          show some (HO.lst _) = some (.lst ((byL 0 (ms.take k ++ [m])).map num))
          rw [byL_snoc, if_neg z]
    obtain ⟨s8, dB2⟩ := hP
    rw [hlm, List.take_of_length_le (Nat.le_refl _)] at dB2
    refine ⟨_, _, rfl, .d1 (.dp (.lst (SqL.of dB2) (numsD _))), (okb 0).sh, Nat.le_trans (okb 0).ln (by decide), Nat.le_trans (okb 0).dp (by decide), rfl, _, rfl, ifSame ?_⟩
    have dL8 := s8 _ _ dL7
    have hp28 := s8 _ _ hp27
    -- by leaving
    refine ⟨_, rfl, _, _, rfl, .d1 (.dp (.lst (SqL.of hp28) (numsD _))), (okb 1).sh, Nat.le_trans (okb 1).ln (by decide), Nat.le_trans (okb 1).dp (by decide), ?_⟩
    refine ⟨_, rfl, L, rfl, ⟨_, SqL.of dL8⟩, fun B3 hB3 => ?_⟩
    refine lc_it (walk_list (xs := ms.map num)) (fun k H' => Same H8 H' ∧ H' B3 = some (.lst ((byL 1 (ms.take k)).map num))) ⟨same_new hB3, upd_same⟩ (fun k H' _ hP => SqL.of (hP.1 _ _ dL8)) (fun k v H9 H10 hk hP hY => ?_) (fun H9 hP => ?_)
    · obtain ⟨s9, d2⟩ := hP
      obtain ⟨rfl, hx⟩ := hY
      rw [hlm] at hk
      obtain ⟨m, hm⟩ : ∃ m, ms[k]? = some m := ⟨_, List.getElem?_eq_getElem hk⟩
      rw [List.getElem?_map, hm] at hx
      cases (show some (num m) = some v from hx)
      have bl := byL_len 1 (ms.take k)
      rw [List.length_take] at bl
      refine ⟨rfl, _, rfl, _, _, rfl, rfl, (by show (0 : Int) < 2; decide), rfl, _, rfl, ?_⟩
      by_cases z : m % 2 = 1
      · refine ite2 (fun hc => ?_) (fun hc => absurd (decide_eq_true (by show V.int _ = V.int _; congr 1; omega)) hc)
        · refine ⟨_, rfl, _, _, rfl, rfl, ⟨by decide, by decide⟩, _, d2, ?_, fun c u w => ?_, ?_⟩
          · rw [List.length_map]
            exact small1000 (by omega)
          · rw [upd_ne (ne_of_none w hB3)]
            exact s9 _ _ w
          · rw [upd_same, List.take_add_one, hm]
            show some (HO.lst _) = some (.lst ((byL 1 (ms.take k ++ [m])).map num))
            rw [byL_snoc, if_pos z, List.map_append]
            rfl
      · refine ite2 (fun hc => absurd (of_decide_eq_true hc) (fun y => z (by have := V.int.inj y; omega))) (fun hc => ?_)
        · refine ⟨s9, ?_⟩
          rw [d2, List.take_add_one, hm]
          show some (HO.lst _) = some (.lst ((byL 1 (ms.take k ++ [m])).map num))
          rw [byL_snoc, if_neg z]
    obtain ⟨s9, dB3⟩ := hP
    rw [hlm, List.take_of_length_le (Nat.le_refl _)] at dB3
    refine ⟨_, _, rfl, .d1 (.dp (.lst (SqL.of dB3) (numsD _))), (okb 1).sh, Nat.le_trans (okb 1).ln (by decide), Nat.le_trans (okb 1).dp (by decide), rfl, _, rfl, ifSame ?_⟩
    have dL9 := s9 _ _ dL8
    have s79 := s8.trans s9
    have s29 := s25.trans (s57.trans s79)
    have oa9 := oa7.kp fun c x _ z => s79 c x z
    obtain ⟨k, hk⟩ : ∃ k, ms[ms.length / 2]? = some k := ⟨_, List.getElem?_eq_getElem (by omega)⟩
    have hat : atI (ms.map num) ((((ms.map num).length : Nat) : Int) / 2) = some (num k) := by
      rw [hlm, show ((ms.length : Nat) : Int) / 2 = ((ms.length / 2 : Nat) : Int) from by omega]
      exact atI_nat (by rw [List.getElem?_map, hk]; rfl)
    refine ⟨_, rfl, u, du, fu, rfl, s79 _ _ u17, ul _ (by decide), ?_⟩
    refine ⟨_, rfl, _, rfl, .ref L, _, rfl, .inl ⟨_, SqL.of dL9, rfl⟩, _, _, rfl, rfl, ⟨by decide, by decide⟩, L, _, _, _, rfl, rfl, SqL.of dL9, hat, ?_⟩
    refine ⟨N5, u, ms, ls, 2 * n, ts, _, k, rfl, oa9, hk, by omega, by omega, fun HA oaA kA => ?_⟩
    have pN : ¬ N5 p := fun h => al5 _ h np
    have np23 : H3 p2 = none := none_of' s4 np2
    have p2N : ¬ N5 p2 := fun h => al5 _ h np23
    have pp2 : p ≠ p2 := fun e => by rw [e] at hp; rw [hp] at np2; cases np2
    have hpA := kA _ _ pN (s79 _ _ hp7)
    have hp2A := kA _ _ p2N (s79 _ _ hp27)
    refine ⟨_, rfl, .inl ⟨rfl, _, SqL.of hpA⟩, p, _, rfl, rfl, hpA, ?_⟩
    have kB : ∀ c z, c ≠ p → HA c = some z → (upd HA p (.lst [])) c = some z := fun c z hc w => by
      rw [upd_ne hc]
      exact w
    generalize upd HA p (.lst []) = HB at *
    have hp2B := kB _ _ pp2.symm hp2A
    refine ⟨_, rfl, .inl ⟨rfl, _, SqL.of hp2B⟩, p2, _, _, rfl, rfl, hp2B, small1000 (by have := byL_len 1 ms; rw [List.length_map]; omega), ?_⟩
    refine ⟨fun c z w => ?_, _, _, _, _, rfl⟩
    have w2 := s2 _ _ w
    rw [upd_ne (ne_of_none (s3 _ _ w2) np23)]
    exact kB _ _ (ne_of_none (s3 _ _ w2) np) (kA _ _ (fun h => by rw [fN _ h] at w2; cases w2) (s29 _ _ w2))
def spRight (CT CO : Addr) : Sp := fun vs H Q _ => ∃ (N : Addr → Prop) (b t d r : Addr) (n : Nat) (ms ls : List Nat) (ts : Nat) (m : Int), vs = [.ref b, .ref t, .ref d] ∧ BoxD H b m ∧ m ≤ 100000 ∧ TouA N H t CT CO n ms ls ts ∧ Mod H d r ms ls ts ∧ ¬ N b ∧ d ≠ b ∧ r ≠ b ∧ n ≤ 64 ∧ ts ≤ 1000 ∧
  ∀ H', BoxD H' b (m + 2) → (∀ c u, c ≠ b → H c = some u → H' c = some u) → Q (.bl true) H'
theorem ok_right (T : Txt K mg) (m_many : Met P w K mg base 1 CT "many" (spTMany CT CO) []) (m_marks_of : Met P w K mg base 3 CT "marks_of" (spMOf CT CO) []) (c__law_take : CalG P w K mg base 1 "_law_take" spTakeD) (c__law_lists_right : CalG P w K mg base 5 "_law_lists_right" (spLR CT CO))
    (D : DefAt K mg "_law_right" s__law_right ["_law_box_here", "_law_tour", "_law_model"]) : CalG P w K mg base 6 "_law_right" (spRight CT CO) := by
  refine D.cal sc__law_right (fun vs H Q E h => ?_) (fun f cdv A outer s H vs Q E hG hr h => ?_)
  · obtain ⟨N, b, t, d, r, n, ms, ls, ts, m, rfl, _⟩ := h
    rfl
  · obtain ⟨N, b, t, d, r, n, ms, ls, ts, m, rfl, hB, hm, x, md, nb, db, rb, hn, hts, q⟩ := h
    have hlen := x.len
    have hpos := x.ok.pos
    obtain ⟨kvs, h1, h2, h3, h5, xs, e1, row⟩ := md
    have hl1 := row.lm
    obtain ⟨dx, fs, x1, nl⟩ := x.ins
    have okn : Okd (.int (n : Nat)) 50 0 := numOk (by omega)
    refine ⟨_, (pss_cons (ps_set (i := 3) sc__law_right.nd rfl (Or.inl rfl) (pe_op op_fdiv (pe_callB call_len (by rfl) T.b_len boot_len_ (pa_cons (pe_dget (hu_of hr) (pv 2) pe_str (fun _ _ => rfl)) pa_nil)) pe_int))
      (pss_cons (ps_if (pt_cmpR op_ne (pe_callB (call_repr hG (hu64 hr)) (by rfl) T.b_repr boot_repr_ (pa_cons (pe_mt0 m_many hr (by decide) (pv 1)) pa_nil)) (pe_callB (call_repr hG (hu64 hr)) (by rfl) T.b_repr boot_repr_ (pa_cons (pv 3) pa_nil)) (nomark _))
          (pss_one (ps_ret pe_bl)) pss_nil)
      (pss_cons (ps_for PassesOwn.never rfl (pi_range1 rfl T.b_range (pa_cons pe_int pa_nil)) (pg_name (i := 4) sc__law_right.nd rfl (Or.inl rfl))
          (pss_cons (ps_set (i := 5) sc__law_right.nd rfl (Or.inl rfl) (pe_g c__law_take hG (hr.mono (by decide)) (by rfl) (pa_cons (pv 0) (pa_cons (pv 3) pa_nil))))
          (pss_one (ps_if (pt_cmpR op_ne (pe_callB (call_repr hG (hu64 hr)) (by rfl) T.b_repr boot_repr_ (pa_cons (pe_mt m_marks_of hr (by decide) (pv 1) (pa_cons (pv 5) pa_nil)) pa_nil)) (pe_callB (call_repr hG (hu64 hr)) (by rfl) T.b_repr boot_repr_ (pa_cons (pe_tup (pa_cons (pe_op op_mul pe_int (pv 5)) (pa_cons (pe_op op_add (pe_op op_mul pe_int (pv 5)) pe_int) pa_nil))) pa_nil)) (nomark _))
              (pss_one (ps_ret pe_bl)) pss_nil))))
      (pss_one (ps_ret (pe_g c__law_lists_right hG (hr.mono (by decide)) (by rfl) (pa_cons (pv 1) (pa_cons (pv 2) pa_nil)))))))), ?_⟩
    have en : V.int (((xs.length : Nat) : Int) / 2) = num n := by
      rw [hl1, hlen]
      show V.int _ = V.int _
      congr 1
      omega
    refine ⟨_, rfl, d, _, rfl, dgs h1 h3, .ref r, _, rfl, .inl ⟨_, SqL.of e1, rfl⟩, _, _, rfl, rfl, ⟨by decide, by decide⟩, ?_⟩
    have en' : (fun (i j : Int) => V.int (i / j)) ((xs.length : Nat) : Int) 2 = num n := en
    rw [en']
    refine ⟨_, rfl, t, dx, fs, rfl, x1, nl _ (by decide), N, t, n, ms, ls, ts, rfl, x, _, _, rfl, .d1 (.dp (.int _)), okn.sh, Nat.le_trans okn.ln (by decide), Nat.le_trans okn.dp (by decide), ?_⟩
    refine ⟨_, rfl, _, _, rfl, .d1 (.dp (.int _)), okn.sh, Nat.le_trans okn.ln (by decide), Nat.le_trans okn.dp (by decide), rfl, _, rfl, ifSame ?_⟩
    refine ⟨_, rfl, by decide, by decide, ?_⟩
    refine for_range (lo := 0) (fun k σ H' => (∀ c u, c ≠ b → H c = some u → H' c = some u) ∧ BoxD H' b (m + (k : Nat)) ∧ ∃ y4 y5 : Option V, σ = [some (.ref b), some (.ref t), some (.ref d), some (num n), y4, y5])
      ⟨fun _ _ _ z => z, hB.up (by omega), none, none, rfl⟩ (fun k σ H1 hk hP => ?_) (fun σ H1 hP => ?_)
    · obtain ⟨k1, hB1, y4, y5, rfl⟩ := hP
      replace hk : k < 2 := hk
      refine ⟨_, rfl, _, rfl, b, (n : Nat), m + (k : Nat), rfl, hB1, by omega, by omega, by omega, fun j H2 a0 a1 hB2 k2 => ?_⟩
      obtain ⟨i, rfl⟩ : ∃ i : Nat, j = i := ⟨j.toNat, by omega⟩
      have kk : ∀ c u, c ≠ b → H c = some u → H2 c = some u := fun c u hc z => (k2 c hc).trans (k1 c u hc z)
      obtain ⟨bx, by_, bz, bk, hb, _⟩ := hB
      have kt : KT H H2 := fun c ys z => kk c _ (fun e => by rw [e, hb] at z; cases z) z
      have x2 := x.kp (H' := H2) (fun c u hc z => kk c u (fun e => nb (e ▸ hc)) z) kt
      obtain ⟨dx, fs, x12, nl⟩ := x2.ins
      have okp := pairOk (a := 2 * i) (b := 2 * i + 1) (by omega) (by omega)
      refine ⟨_, rfl, t, dx, fs, rfl, x12, nl _ (by decide), _, rfl, N, t, n, ms, ls, ts, i, rfl, x2, by omega, fun p hp => ?_⟩
      refine ⟨_, .tuple [.int (2 * i : Nat), .int (2 * i + 1 : Nat)], rfl, .d1 (.dp (.tup (SqT.of hp) (.cons (.int _) (.cons (.int _) .nil)))), okp.sh, Nat.le_trans okp.ln (by decide), Nat.le_trans okp.dp (by decide), ?_⟩
      refine ⟨_, rfl, _, _, rfl, rfl, .inl ⟨by decide, by decide⟩, _, rfl, _, _, rfl, rfl, .inl ⟨by decide, by decide⟩, _, _, rfl, rfl, (by show 2 ≤ sizeLine; decide), fun p2 hp2 => ?_⟩
      have ep : (upd H2 p2 (.tup [V.int (2 * ((i : Nat) : Int)), V.int (2 * ((i : Nat) : Int) + 1)])) p2 = some (.tup [num (2 * i), num (2 * i + 1)]) := by
        rw [upd_same]
        rfl
      have sp := same_new (o := .tup [V.int (2 * ((i : Nat) : Int)), V.int (2 * ((i : Nat) : Int) + 1)]) hp2
      generalize upd H2 p2 (.tup [V.int (2 * ((i : Nat) : Int)), V.int (2 * ((i : Nat) : Int) + 1)]) = H3 at *
      refine ⟨_, .tuple [.int (2 * i : Nat), .int (2 * i + 1 : Nat)], rfl, .d1 (.dp (.tup (SqT.of ep) (.cons (.int _) (.cons (.int _) .nil)))), okp.sh, Nat.le_trans okp.ln (by decide), Nat.le_trans okp.dp (by decide), rfl, _, rfl, ifSame ?_⟩
      exact ⟨fun c u hc z => sp _ _ (kk c u hc z), (hB2.up (by omega)).kp fun u z => sp _ _ z, _, _, rfl⟩
    · obtain ⟨k1, hB1, y4, y5, rfl⟩ := hP
      obtain ⟨bx, by_, bz, bk, hb, _⟩ := hB
      have kt : KT H H1 := fun c ys z => k1 c _ (fun e => by rw [e, hb] at z; cases z) z
      have x2 := x.kp (H' := H1) (fun c u hc z => k1 c u (fun e => nb (e ▸ hc)) z) kt
      refine ⟨_, rfl, _, rfl, N, t, d, r, n, ms, ls, ts, rfl, x2, ⟨kvs, k1 _ _ db h1, h2, h3, h5, xs, k1 _ _ rb e1, row.kp kt⟩, hn, hts, fun H2 s2 => q H2 (hB1.kp fun u z => s2 _ _ z) fun c u hc z => s2 _ _ (k1 c u hc z)⟩
end
end K16
set_option maxHeartbeats 1000000
namespace K16
open PySem PySem.Spec PyProof.Rows L2 Gd Gx
open C8 (clsBody Met pe_mt pe_mt0)
/-- a tour and its model -/
def One (M : Addr → Prop) (H : Hp) (CT CO t d r : Addr) (cap : Nat) : Prop := ∃ (N : Addr → Prop) (n : Nat) (ms ls : List Nat) (ts : Nat), TouA N H t CT CO n ms ls ts ∧ Mod H d r ms ls ts ∧ (∀ c, N c → M c) ∧ M d ∧ ¬ N d ∧ n ≤ cap ∧ ts ≤ 2 * cap
theorem One.kp {M : Addr → Prop} {H H' : Hp} {CT CO t d r : Addr} {cap : Nat} (h : One M H CT CO t d r cap) (k : ∀ c u, M c → H c = some u → H' c = some u) (kr : ∀ u, H r = some u → H' r = some u) (kt : KT H H') : One M H' CT CO t d r cap := by
  obtain ⟨N, n, ms, ls, ts, x, md, s, md2, nd, a, b⟩ := h
  exact ⟨N, n, ms, ls, ts, x.kp (fun c u hc z => k c u (s c hc) z) kt, md.kp (fun c u hc z => by rcases hc with rfl | rfl; exact k _ _ md2 z; exact kr _ z) kt, s, md2, nd, a, b⟩
theorem One.up {M : Addr → Prop} {H : Hp} {CT CO t d r : Addr} {n m : Nat} (h : One M H CT CO t d r n) (k : n ≤ m) : One M H CT CO t d r m := by
  obtain ⟨N, n, ms, ls, ts, x, md, s, md2, nd, a, b⟩ := h
  exact ⟨N, n, ms, ls, ts, x, md, s, md2, nd, by omega, by omega⟩
theorem One.cut {M : Addr → Prop} {H : Hp} {CT CO t d r : Addr} {cap : Nat} (h : One M H CT CO t d r cap) : One (fun c => M c ∧ H c ≠ none) H CT CO t d r cap := by
  obtain ⟨N, n, ms, ls, ts, x, md, s, md2, nd, a, b⟩ := h
  have md0 := md
  obtain ⟨kvs, h1, _⟩ := md0
  exact ⟨fun c => N c ∧ H c ≠ none, n, ms, ls, ts, x.sub fun c h1 h2 => ⟨h2, h1⟩, md, fun c h => ⟨s c h.1, h.2⟩, ⟨md2, by rw [h1]; simp⟩, fun h => nd h.1, a, b⟩
theorem One.row {M : Addr → Prop} {H : Hp} {CT CO t d r : Addr} {cap : Nat} (h : One M H CT CO t d r cap) : ∃ xs, H r = some (.lst xs) := by
  obtain ⟨N, n, ms, ls, ts, x, ⟨kvs, _, _, _, _, xs, e, _⟩, _⟩ := h
  exact ⟨xs, e⟩
structure Two (H0 H : Hp) (CT CO Lo Lm : Addr) (M : Nat → Addr → Prop) (t d r : Nat → Addr) (cap : Nat) : Prop where
  lo : H Lo = some (.lst [.ref (t 0), .ref (t 1)])
  lm : H Lm = some (.lst [.ref (d 0), .ref (d 1)])
  one : ∀ j, j < 2 → One (M j) H CT CO (t j) (d j) (r j) cap
  dis : ∀ i j c, i < 2 → j < 2 → i ≠ j → M i c → ¬ M j c
  no : ∀ j, j < 2 → ¬ M j Lo
  nm : ∀ j, j < 2 → ¬ M j Lm
  nr : ∀ i j, i < 2 → j < 2 → ¬ M i (r j)
  rl : ∀ j, j < 2 → r j ≠ Lo ∧ r j ≠ Lm
  ne : Lo ≠ Lm
  sm : Same H0 H
  fr : ∀ j, j < 2 → ∀ c, M j c → H0 c = none
  flo : H0 Lo = none
  flm : H0 Lm = none
section
variable {H0 H H' : Hp} {CT CO Lo Lm : Addr} {M : Nat → Addr → Prop} {t d r : Nat → Addr} {cap : Nat}
theorem Two.kp (x : Two H0 H CT CO Lo Lm M t d r cap) {b : Addr} (nb : ∀ j, j < 2 → ¬ M j b) (l1 : Lo ≠ b) (l2 : Lm ≠ b) (l3 : ∀ j, j < 2 → r j ≠ b) (fb : H0 b = none) (k : ∀ c u, c ≠ b → H c = some u → H' c = some u) (kt : KT H H') : Two H0 H' CT CO Lo Lm M t d r cap :=
  ⟨k _ _ l1 x.lo, k _ _ l2 x.lm, fun j hj => (x.one j hj).kp (fun c u hc z => k c u (fun e => nb j hj (e ▸ hc)) z) (fun u z => k _ _ (l3 j hj) z) kt, x.dis, x.no, x.nm, x.nr, x.rl, x.ne, fun c u z => k c u (ne_of_none z fb) (x.sm c u z), x.fr, x.flo, x.flm⟩
theorem Two.cut (x : Two H0 H CT CO Lo Lm M t d r cap) : Two H0 H CT CO Lo Lm (fun j c => M j c ∧ H c ≠ none) t d r cap :=
  ⟨x.lo, x.lm, fun j hj => (x.one j hj).cut, fun i j c hi hj e h1 h2 => x.dis i j c hi hj e h1.1 h2.1, fun j hj z => x.no j hj z.1, fun j hj z => x.nm j hj z.1, fun i j hi hj z => x.nr i j hi hj z.1, x.rl, x.ne, x.sm, fun j hj c z => x.fr j hj c z.1, x.flo, x.flm⟩
theorem Two.mk2 {A B : Addr → Prop} {o0 o1 d0 d1 r0 r1 : Addr} (lo : H Lo = some (.lst [.ref o0, .ref o1])) (lm : H Lm = some (.lst [.ref d0, .ref d1])) (one0 : One A H CT CO o0 d0 r0 cap) (one1 : One B H CT CO o1 d1 r1 cap) (dis : ∀ c, A c → ¬ B c)
    (nA : ¬ A Lo) (nB : ¬ B Lo) (mA : ¬ A Lm) (mB : ¬ B Lm) (nr : ¬ A r0 ∧ ¬ A r1 ∧ ¬ B r0 ∧ ¬ B r1) (rl : (r0 ≠ Lo ∧ r0 ≠ Lm) ∧ r1 ≠ Lo ∧ r1 ≠ Lm) (ne : Lo ≠ Lm) (sm : Same H0 H) (fA : ∀ c, A c → H0 c = none) (fB : ∀ c, B c → H0 c = none) (flo : H0 Lo = none) (flm : H0 Lm = none) :
    Two H0 H CT CO Lo Lm (fun j c => if j = 0 then A c else B c) (fun j => if j = 0 then o0 else o1) (fun j => if j = 0 then d0 else d1) (fun j => if j = 0 then r0 else r1) cap := by
  refine ⟨lo, lm, fun j hj => ?_, fun i j c hi hj e h1 h2 => ?_, fun j hj z => ?_, fun j hj z => ?_, fun i j hi hj z => ?_, fun j hj => ?_, ne, sm, fun j hj c z => ?_, flo, flm⟩
  · rcases (by omega : j = 0 ∨ j = 1) with rfl | rfl
    · exact one0
    · exact one1
  · rcases (by omega : i = 0 ∧ j = 1 ∨ i = 1 ∧ j = 0) with ⟨rfl, rfl⟩ | ⟨rfl, rfl⟩
    · exact dis c h1 h2
    · exact dis c h2 h1
  · rcases (by omega : j = 0 ∨ j = 1) with rfl | rfl
    · exact nA z
    · exact nB z
  · rcases (by omega : j = 0 ∨ j = 1) with rfl | rfl
    · exact mA z
    · exact mB z
  · rcases (by omega : i = 0 ∨ i = 1) with rfl | rfl
    · rcases (by omega : j = 0 ∨ j = 1) with rfl | rfl
      · exact nr.1 z
      · exact nr.2.1 z
    · rcases (by omega : j = 0 ∨ j = 1) with rfl | rfl
      · exact nr.2.2.1 z
      · exact nr.2.2.2 z
  · rcases (by omega : j = 0 ∨ j = 1) with rfl | rfl
    · exact rl.1
    · exact rl.2
  · rcases (by omega : j = 0 ∨ j = 1) with rfl | rfl
    · exact fA c z
    · exact fB c z
theorem Two.same (x : Two H0 H CT CO Lo Lm M t d r cap) (s : Same H H') : Two H0 H' CT CO Lo Lm M t d r cap :=
  ⟨s _ _ x.lo, s _ _ x.lm, fun j hj => (x.one j hj).kp (fun c u _ z => s c u z) (fun u z => s _ _ z) (KT.of s), x.dis, x.no, x.nm, x.nr, x.rl, x.ne, x.sm.trans s, x.fr, x.flo, x.flm⟩
/-- behind a step at one of them -/
theorem Two.step (x : Two H0 H CT CO Lo Lm M t d r cap) {i : Nat} (hi : i < 2) {cap' : Nat} {r' : Addr} {M' : Addr → Prop} (le : cap ≤ cap') (sub : ∀ c, M' c → M i c)
    (h : One M' H' CT CO (t i) (d i) r' cap') (n1 : ¬ M' r') (n2 : ∀ j, j < 2 → j ≠ i → ¬ M j r') (n3 : r' ≠ Lo ∧ r' ≠ Lm) (k : ∀ c u, ¬ M i c → H c = some u → H' c = some u) (kt : KT H H') :
    Two H0 H' CT CO Lo Lm (fun j c => if j = i then M' c else M j c) t d (fun j => if j = i then r' else r j) cap' := by
  have sb : ∀ j c, (if j = i then M' c else M j c) → M j c := fun j c h => by
    by_cases e : j = i
    · simp only [e, if_true] at h
      rw [e]
      exact sub c h
    · simp only [e, if_false] at h
      exact h
  refine ⟨k _ _ (x.no i hi) x.lo, k _ _ (x.nm i hi) x.lm, fun j hj => ?_, fun a j c ha hj e h1 h2 => x.dis a j c ha hj e (sb a c h1) (sb j c h2), fun j hj z => x.no j hj (sb j _ z), fun j hj z => x.nm j hj (sb j _ z), fun a j ha hj z => ?_, fun j hj => ?_, x.ne, fun c u z => k c u (fun y => by rw [x.fr i hi c y] at z; cases z) (x.sm c u z), fun j hj c z => x.fr j hj c (sb j c z), x.flo, x.flm⟩
  · by_cases e : j = i
    · subst e
      simp only [if_true]
      exact h
    · simp only [e, if_false]
      exact ((x.one j hj).kp (fun c u hc z => k c u (x.dis j i c hj hi e hc) z) (fun u z => k _ _ (x.nr i j hi hj) z) kt).up le
  · by_cases e : j = i
    · simp only [e, if_true] at z
      by_cases e2 : a = i
      · simp only [e2, if_true] at z
        exact n1 z
      · simp only [e2, if_false] at z
        exact n2 a ha e2 z
    · simp only [e, if_false] at z
      exact x.nr a j ha hj (sb a _ z)
  · by_cases e : j = i
    · simp only [e, if_true]
      exact n3
    · simp only [e, if_false]
      exact x.rl j hj
theorem Two.copy (x : Two H0 H CT CO Lo Lm M t d r cap) (hc : ∀ j, j < 2 → ∀ c, M j c → H c ≠ none) {i : Nat} (hi : i < 2) {B : Addr → Prop} {u p : Addr} (nw : One B H' CT CO u p (r i) cap) (fB : ∀ c, B c → H c = none)
    (e1 : H' Lo = some (.lst ([V.ref (t 0), V.ref (t 1)].set (1 - i) (.ref u)))) (e2 : H' Lm = some (.lst ([V.ref (d 0), V.ref (d 1)].set (1 - i) (.ref p)))) (k : ∀ c x, c ≠ Lo → c ≠ Lm → H c = some x → H' c = some x)
    {b : Addr} (hb : H b ≠ none) (nb : ∀ j, j < 2 → ¬ M j b) (lb : ∀ j, j < 2 → r j ≠ b) : ∃ M' t' d' r', Two H0 H' CT CO Lo Lm M' t' d' r' cap ∧ (∀ j, j < 2 → ¬ M' j b) ∧ ∀ j, j < 2 → r' j ≠ b := by
  have kt : KT H H' := fun c ys z => k c _ (fun e => by rw [e, x.lo] at z; cases z) (fun e => by rw [e, x.lm] at z; cases z) z
  have old : One (M i) H' CT CO (t i) (d i) (r i) cap := (x.one i hi).kp (fun c y h z => k c y (fun e => x.no i hi (e ▸ h)) (fun e => x.nm i hi (e ▸ h)) z) (fun u z => k _ _ (x.rl i hi).1 (x.rl i hi).2 z) kt
  have sm : Same H0 H' := fun c y z => k c y (ne_of_none z x.flo) (ne_of_none z x.flm) (x.sm c y z)
  have dis : ∀ c, M i c → ¬ B c := fun c h1 h2 => hc i hi c h1 (fB c h2)
  have b1 : ¬ B Lo := fun h => by
    have := fB _ h
    rw [x.lo] at this
    cases this
  have b2 : ¬ B Lm := fun h => by
    have := fB _ h
    rw [x.lm] at this
    cases this
  have b3 : ¬ B (r i) := fun h => by
    have := fB _ h
    obtain ⟨xs, e⟩ := (x.one i hi).row
    rw [e] at this
    cases this
  have f0 : ∀ c, B c → H0 c = none := fun c h => none_of' x.sm (fB c h)
  rcases (by omega : i = 0 ∨ i = 1) with rfl | rfl
  · refine ⟨_, _, _, _, Two.mk2 e1 e2 old nw dis (x.no 0 hi) b1 (x.nm 0 hi) b2 ⟨x.nr 0 0 hi hi, x.nr 0 0 hi hi, b3, b3⟩ ⟨x.rl 0 hi, x.rl 0 hi⟩ x.ne sm (x.fr 0 hi) f0 x.flo x.flm, fun j hj z => ?_, fun j hj z => ?_⟩
    · rcases (by omega : j = 0 ∨ j = 1) with rfl | rfl
      · exact nb 0 hi z
      · exact hb (fB b z)
    · rcases (by omega : j = 0 ∨ j = 1) with rfl | rfl
      · exact lb 0 hi z
      · exact lb 0 hi z
  · refine ⟨_, _, _, _, Two.mk2 e1 e2 nw old (fun c h1 h2 => dis c h2 h1) b1 (x.no 1 hi) b2 (x.nm 1 hi) ⟨b3, b3, x.nr 1 1 hi hi, x.nr 1 1 hi hi⟩ ⟨x.rl 1 hi, x.rl 1 hi⟩ x.ne sm f0 (x.fr 1 hi) x.flo x.flm, fun j hj z => ?_, fun j hj z => ?_⟩
    · rcases (by omega : j = 0 ∨ j = 1) with rfl | rfl
      · exact hb (fB b z)
      · exact nb 1 hi z
    · rcases (by omega : j = 0 ∨ j = 1) with rfl | rfl
      · exact lb 1 hi z
      · exact lb 1 hi z
end
theorem at2 {f : Nat → Addr} {i : Nat} (hi : i < 2) : atI [V.ref (f 0), V.ref (f 1)] ((i : Nat) : Int) = some (.ref (f i)) := by
  rcases (by omega : i = 0 ∨ i = 1) with rfl | rfl
  · rfl
  · rfl
theorem mod_mk {H : Hp} {p q : Addr} {ms ls : List Nat} {ts : Nat} (e1 : H p = some (.dK (mergeK [] [(kr, .ref q), (km, num ts)]))) (e2 : Row H q ms ls) : Mod H p q ms ls ts :=
  ⟨_, e1, rfl, valV_pos rfl, (valV_neg (show ¬ kr = km by decide)).trans (valV_pos rfl), e2⟩
theorem lay_mod {H p t t2 q} (hp : H p = none) (ht : (upd H p (.dK [])) t = none) (ht2 : (upd (upd H p (.dK [])) t (.tup [.int 0, .int 0])) t2 = none) (hq : (upd (upd (upd H p (.dK [])) t (.tup [.int 0, .int 0])) t2 (.tup [.int 1, .int 512])) q = none) :
    (upd (upd (upd (upd H p (.dK [])) t (.tup [.int 0, .int 0])) t2 (.tup [.int 1, .int 512])) q (.lst [.ref t, .ref t2])) p = some (.dK []) ∧ H q = none ∧
    Same H (upd (upd (upd (upd (upd H p (.dK [])) t (.tup [.int 0, .int 0])) t2 (.tup [.int 1, .int 512])) q (.lst [.ref t, .ref t2])) p (.dK (mergeK [] [(kr, .ref q), (km, .int 0)]))) ∧
    Mod (upd (upd (upd (upd (upd H p (.dK [])) t (.tup [.int 0, .int 0])) t2 (.tup [.int 1, .int 512])) q (.lst [.ref t, .ref t2])) p (.dK (mergeK [] [(kr, .ref q), (km, .int 0)]))) p q [0, 1] [0, 512] 0 := by
  have s1 := same_new (o := .dK []) hp
  have p1 : (upd H p (.dK [])) p = some (.dK []) := upd_same
  generalize upd H p (.dK []) = A1 at *
  have s2 := same_new (o := .tup [.int 0, .int 0]) ht
  have p2 : (upd A1 t (.tup [.int 0, .int 0])) t = some (.tup [num 0, num 0]) := upd_same
  generalize upd A1 t (.tup [.int 0, .int 0]) = A2 at *
  have s3 := same_new (o := .tup [.int 1, .int 512]) ht2
  have p3 : (upd A2 t2 (.tup [.int 1, .int 512])) t2 = some (.tup [num 1, num 512]) := upd_same
  generalize upd A2 t2 (.tup [.int 1, .int 512]) = A3 at *
  have s4 := same_new (o := .lst [.ref t, .ref t2]) hq
  have p4 : (upd A3 q (.lst [.ref t, .ref t2])) q = some (.lst [.ref t, .ref t2]) := upd_same
  generalize upd A3 q (.lst [.ref t, .ref t2]) = A4 at *
  have q4 := s4 _ _ (s3 _ _ (s2 _ _ p1))
  have w1 := s4 _ _ (s3 _ _ p2)
  have w2 := s4 _ _ p3
  have pt : t ≠ p := fun e => by rw [e, q4] at w1; cases w1
  have pt2 : t2 ≠ p := fun e => by rw [e, q4] at w2; cases w2
  have pq : q ≠ p := fun e => by rw [e, q4] at p4; cases p4
  refine ⟨q4, none_of' (s1.trans (s2.trans s3)) hq, fun c u z => ?_, mod_mk upd_same ⟨[.ref t, .ref t2], ?_, rfl, rfl, fun i m l e1 e2 => ?_⟩⟩
  · rw [upd_ne (ne_of_none z hp)]
    exact s4 _ _ (s3 _ _ (s2 _ _ (s1 _ _ z)))
  · rw [upd_ne pq]
    exact p4
  · rcases i with _ | i
    · cases (Option.some.inj e1)
      cases (Option.some.inj e2)
      refine ⟨t, rfl, ?_⟩
      rw [upd_ne pt]
      exact w1
    · rcases i with _ | i
      · cases (Option.some.inj e1)
        cases (Option.some.inj e2)
        refine ⟨t2, rfl, ?_⟩
        rw [upd_ne pt2]
        exact w2
      · cases e1
section
variable {P : Program} {w : World} {K : PySem.W.Frag} {mg : Str → Option Value} {base : Heap} {CT CO : Addr}
def spLaw (K : PySem.W.Frag) : Sp := fun vs H Q _ => ∃ (a : Addr) (ns : List Int), vs = [.ref a] ∧ SqL K H a (ns.map V.int) ∧ ns.length ≤ 63 ∧ ∀ H', Q (.bl true) H'
theorem ok_law {fT : Addr} {fdT : FuncData} (T : Txt K mg) {f : Addr} {fd : FuncData} (F : Fun K "law" "law" s_law f fd) (cT : mg "Tour" = some (.ref CT)) (M_Tour : Mk K CT fT) (B_Tour : Binds K fdT ["self"] []) (G_Tour : FnOk P w K mg base CX0 4 fT fdT ["self"] (spTInit CT CO)) (m_copied : Met P w K mg base 6 CT "copied" (spTCopied CT CO) []) (m_grow : Met P w K mg base 4 CT "grow" (spGrow CT CO) []) (c__law_cell_at : CalG P w K mg base 1 "_law_cell_at" (Gd.spCell K)) (c__law_box : CalG P w K mg base 1 "_law_box" spBoxD) (c__law_take : CalG P w K mg base 1 "_law_take" spTakeD) (c__law_one_of : CalG P w K mg base 2 "_law_one_of" spOneOf) (c__law_lay : CalG P w K mg base 2 "_law_lay" spLay) (c__law_right : CalG P w K mg base 6 "_law_right" (spRight CT CO)) : FnG P w K mg base CX0 8 f fd ["_law_script"] (spLaw K) := by
  refine okG F sc_law (fun vs H Q E h => ?_) (fun cdv A outer s H vs Q E hG hr h => ?_)
  · obtain ⟨a, ns, rfl, _⟩ := h
    rfl
  · obtain ⟨a, ns, rfl, hS, hl, q⟩ := h
    refine ⟨_, (pss_cons (ps_set (i := 1) sc_law.nd rfl (Or.inl rfl) (pe_lst (pa_cons (pe_make0 M_Tour G_Tour (hr.mono (by decide)) rfl cT B_Tour .nil pass0) (pa_cons (pe_make0 M_Tour G_Tour (hr.mono (by decide)) rfl cT B_Tour .nil pass0) pa_nil))))
      (pss_cons (ps_set (i := 2) sc_law.nd rfl (Or.inl rfl) (pe_lst (pa_cons (pe_disp (pps_cons pe_str (pe_lst (pa_cons (pe_tup (pa_cons pe_int (pa_cons pe_int pa_nil))) (pa_cons (pe_tup (pa_cons pe_int (pa_cons pe_int pa_nil))) pa_nil))) (pps_cons pe_str pe_int pps_nil)) (by rfl) (by rfl) (fun z => by cases z) (by decide)) (pa_cons (pe_disp (pps_cons pe_str (pe_lst (pa_cons (pe_tup (pa_cons pe_int (pa_cons pe_int pa_nil))) (pa_cons (pe_tup (pa_cons pe_int (pa_cons pe_int pa_nil))) pa_nil))) (pps_cons pe_str pe_int pps_nil)) (by rfl) (by rfl) (fun z => by cases z) (by decide)) pa_nil))))
      (pss_cons (ps_for PassesOwn.never rfl (pi_range1 rfl T.b_range (pa_cons (pe_callB (call_max2 rfl) (by rfl) T.b_max boot_max_ (pa_cons pe_int (pa_cons (pe_callB (call_min2 rfl) (by rfl) T.b_min boot_min_ (pa_cons pe_int (pa_cons (pe_callB call_len (by rfl) T.b_len boot_len_ (pa_cons (pv 0) pa_nil)) pa_nil))) pa_nil))) pa_nil)) (pg_name (i := 3) sc_law.nd rfl (Or.inl rfl))
          (pss_cons (ps_set (i := 4) sc_law.nd rfl (Or.inl rfl) (pe_g c__law_box hG (hr.mono (by decide)) (by rfl) (pa_cons (pe_g c__law_cell_at hG (hr.mono (by decide)) (by rfl) (pa_cons (pv 0) (pa_cons (pv 3) pa_nil))) pa_nil)))
          (pss_cons (ps_set (i := 5) sc_law.nd rfl (Or.inl rfl) (pe_callTy call_int1 (by rfl) T.t_int boot_int_ (pa_cons (pe_cmpR op_eq (pe_g c__law_take hG (hr.mono (by decide)) (by rfl) (pa_cons (pv 4) (pa_cons pe_int pa_nil))) pe_int (nomark _)) pa_nil)))
          (pss_cons (ps_set (i := 6) sc_law.nd rfl (Or.inl rfl) (pe_cmpR op_eq (pe_g c__law_take hG (hr.mono (by decide)) (by rfl) (pa_cons (pv 4) (pa_cons pe_int pa_nil))) pe_int (nomark _)))
          (pss_cons (ps_set (i := 7) sc_law.nd rfl (Or.inl rfl) (pe_op op_fdiv (pe_callB call_len (by rfl) T.b_len boot_len_ (pa_cons (pe_dget (hu_of hr) (pe_ix ix_list (pv 2) (pv 5) (fun _ _ => rfl)) pe_str (fun _ _ => rfl)) pa_nil)) pe_int))
          (pss_cons (ps_set (i := 8) sc_law.nd rfl (Or.inl rfl) (pe_g c__law_one_of hG (hr.mono (by decide)) (by rfl) (pa_cons (pv 4) (pa_cons (pv 7) pa_nil))))
          (pss_cons (ps_if (pt_cmpR op_ne (pe_callB (call_repr hG (hu64 hr)) (by rfl) T.b_repr boot_repr_ (pa_cons (pe_mt m_grow hr (by decide) (pe_ix ix_list (pv 1) (pv 5) (fun _ _ => rfl)) (pa_cons (pv 8) pa_nil)) pa_nil)) (pe_callB (call_repr hG (hu64 hr)) (by rfl) T.b_repr boot_repr_ (pa_cons (pv 7) pa_nil)) (nomark _))
              (pss_one (ps_ret pe_bl)) pss_nil)
          (pss_cons (ps_expr (pe_g c__law_lay hG (hr.mono (by decide)) (by rfl) (pa_cons (pe_ix ix_list (pv 2) (pv 5) (fun _ _ => rfl)) (pa_cons (pe_g c__law_lay hG (hr.mono (by decide)) (by rfl) (pa_cons (pe_ix ix_list (pv 2) (pv 5) (fun _ _ => rfl)) (pa_cons (pe_op op_mul pe_int (pv 8)) pa_nil))) pa_nil))))
          (pss_cons (ps_if (pt_val (pv 6))
              (pss_cons (ps_asg (pe_mt0 m_copied hr (by decide) (pe_ix ix_list (pv 1) (pv 5) (fun _ _ => rfl))) (pg_sub (pv 1) (pe_op op_sub pe_int (pv 5)) set_list))
              (pss_one (ps_asg (pe_callTy call_dictD (by rfl) T.t_dict boot_dict_ (pa_cons (pe_ix ix_list (pv 2) (pv 5) (fun _ _ => rfl)) pa_nil)) (pg_sub (pv 2) (pe_op op_sub pe_int (pv 5)) set_list)))) pss_nil)
          (pss_one (ps_for PassesOwn.never rfl (pi_list (pe_lst (pa_cons (pv 5) (pa_cons (pe_op op_sub pe_int (pv 5)) pa_nil)))) (pg_name (i := 9) sc_law.nd rfl (Or.inl rfl))
              (pss_one (ps_if (pt_not (pt_val (pe_g c__law_right hG (hr.mono (by decide)) (by rfl) (pa_cons (pv 4) (pa_cons (pe_ix ix_list (pv 1) (pv 9) (fun _ _ => rfl)) (pa_cons (pe_ix ix_list (pv 2) (pv 9) (fun _ _ => rfl)) pa_nil))))))
                  (pss_one (ps_ret pe_bl)) pss_nil)))))))))))))
      (pss_one (ps_ret pe_bl))))), ?_⟩
    -- the two tours
    intro u du n1 n2 ne1
    refine ⟨u, du, rfl, upd_same, fun H1 N1 r1 k1 f1 => ⟨rfl, ?_⟩⟩
    have s1 : Same H H1 := fun c x z => k1 c x (ne_of_none z n1) (by rw [upd_ne (ne_of_none z n1), upd_ne (ne_of_none z n2)]; exact z)
    have g1 : ∀ c, N1 c → H c = none := fun c hc => by
      rcases f1 c hc with rfl | h
      · exact n1
      · exact none_of' (fun c x z => by rw [upd_ne (ne_of_none z n1), upd_ne (ne_of_none z n2)]; exact z) h
    intro u2 du2 m1 m2 ne2
    refine ⟨u2, du2, rfl, upd_same, fun H2 N2 r2 k2 f2 => ⟨rfl, ?_⟩⟩
    have s2 : Same H1 H2 := fun c x z => k2 c x (ne_of_none z m1) (by rw [upd_ne (ne_of_none z m1), upd_ne (ne_of_none z m2)]; exact z)
    have g2 : ∀ c, N2 c → H1 c = none := fun c hc => by
      rcases f2 c hc with rfl | h
      · exact m1
      · exact none_of' (fun c x z => by rw [upd_ne (ne_of_none z m1), upd_ne (ne_of_none z m2)]; exact z) h
    have r1 := r1.sub (M := fun c => N1 c ∧ H1 c ≠ none) fun c h1 h2 => ⟨h2, h1⟩
    have r2 := r2.sub (M := fun c => N2 c ∧ H2 c ≠ none) fun c h1 h2 => ⟨h2, h1⟩
    refine ⟨(by show 2 ≤ sizeLine; decide), fun Lo hLo => ?_⟩
    have s3 : Same H2 (upd H2 Lo (.lst [.ref u, .ref u2])) := same_new hLo
    have eLo : (upd H2 Lo (.lst [.ref u, .ref u2])) Lo = some (.lst [.ref u, .ref u2]) := upd_same
    have r1 := r1.same (s2.trans s3)
    have r2 := r2.same s3
    generalize upd H2 Lo (.lst [.ref u, .ref u2]) = H3 at *
    -- the first dict
    intro p1 hp1
    refine ⟨(by show 2 ≤ sizeLine; decide), fun t1 ht1 => ⟨(by show 2 ≤ sizeLine; decide), fun t1' ht1' => ⟨(by show 2 ≤ sizeLine; decide), fun q1 hq1 => ?_⟩⟩⟩
    obtain ⟨pd1, fq1, s4, M1⟩ := lay_mod hp1 ht1 ht1' hq1
    refine ⟨pd1, [(kr, .ref q1), (km, .int 0)], rfl, (by show 2 ≤ 15; decide), ?_⟩
    clear pd1 ht1 hq1 ht1'
    generalize upd (upd (upd (upd (upd H3 p1 (.dK [])) t1 (.tup [V.int 0, V.int 0])) t1' (.tup [V.int 1, V.int 512])) q1 (.lst [V.ref t1, V.ref t1'])) p1 (.dK (mergeK [] [(kr, V.ref q1), (km, V.int 0)])) = H4 at *
    -- the second dict
    intro p2 hp2
    refine ⟨(by show 2 ≤ sizeLine; decide), fun t2 ht2 => ⟨(by show 2 ≤ sizeLine; decide), fun t2' ht2' => ⟨(by show 2 ≤ sizeLine; decide), fun q2 hq2 => ?_⟩⟩⟩
    obtain ⟨pd2, fq2, s5, M2⟩ := lay_mod hp2 ht2 ht2' hq2
    refine ⟨pd2, [(kr, .ref q2), (km, .int 0)], rfl, (by show 2 ≤ 15; decide), ?_⟩
    clear pd2 ht2 hq2 ht2'
    generalize upd (upd (upd (upd (upd H4 p2 (.dK [])) t2 (.tup [V.int 0, V.int 0])) t2' (.tup [V.int 1, V.int 512])) q2 (.lst [V.ref t2, V.ref t2'])) p2 (.dK (mergeK [] [(kr, V.ref q2), (km, V.int 0)])) = H5 at *
    refine ⟨(by show 2 ≤ sizeLine; decide), fun Lm hLm => ?_⟩
    have s6 : Same H5 (upd H5 Lm (.lst [.ref p1, .ref p2])) := same_new hLm
    have eLm : (upd H5 Lm (.lst [.ref p1, .ref p2])) Lm = some (.lst [.ref p1, .ref p2]) := upd_same
    generalize upd H5 Lm (.lst [.ref p1, .ref p2]) = H6 at *
    have s36 := (s4.trans s5).trans s6
    have s03 := (s1.trans s2).trans s3
    have M10 := M1
    have M20 := M2
    obtain ⟨ka, a1, a2, a3, a4, xa, a6, a7⟩ := M10
    obtain ⟨kb, b1, b2, b3, b4, xb, b6, b7⟩ := M20
    have fp2 := none_of' s4 hp2
    have fq2' := none_of' s4 fq2
    have fLm3 : H3 Lm = none := none_of' (s4.trans s5) hLm
    have A6 : ∀ {c}, (N1 c ∧ H1 c ≠ none) ∨ c = p1 → (c = p1 ∨ H3 c ≠ none) := fun {c} h => by
      rcases h with h | h
      · exact .inr fun z => h.2 (none_of' (s2.trans s3) z)
      · exact .inl h
    have B6 : ∀ {c}, (N2 c ∧ H2 c ≠ none) ∨ c = p2 → (c = p2 ∨ H3 c ≠ none) := fun {c} h => by
      rcases h with h | h
      · exact .inr fun z => h.2 (none_of' s3 z)
      · exact .inl h
    have p12 : p2 ≠ p1 := fun e => by rw [e, a1] at hp2; cases hp2
    have q1p1 : q1 ≠ p1 := fun e => by rw [e, a1] at a6; cases a6
    have q1p2 : q1 ≠ p2 := ne_of_none a6 hp2
    have q2p1 : q2 ≠ p1 := fun e => by rw [e, a1] at fq2; cases fq2
    have q2p2 : q2 ≠ p2 := fun e => by rw [e, b1] at b6; cases b6
    have t : Two H H6 CT CO Lo Lm (fun j c => if j = 0 then ((N1 c ∧ H1 c ≠ none) ∨ c = p1) else ((N2 c ∧ H2 c ≠ none) ∨ c = p2)) (fun j => if j = 0 then u else u2) (fun j => if j = 0 then p1 else p2) (fun j => if j = 0 then q1 else q2) 1 := by
      refine Two.mk2 (s36 _ _ eLo) eLm
        ⟨_, 1, [0, 1], [0, 512], 0, r1.same s36, (M1.same s5).same s6, fun c h => .inl h, .inr rfl, fun z => z.2 (none_of' (s2.trans s3) hp1), Nat.le_refl _, by decide⟩
        ⟨_, 1, [0, 1], [0, 512], 0, r2.same s36, M2.same s6, fun c h => .inl h, .inr rfl, fun z => z.2 (none_of' s3 fp2), Nat.le_refl _, by decide⟩ (fun c h1 h2 => ?_) (fun h => ?_) (fun h => ?_) (fun h => ?_) (fun h => ?_) ⟨fun h => ?_, fun h => ?_, fun h => ?_, fun h => ?_⟩ ⟨⟨(ne_of_none eLo fq1).symm, ne_of_none (s5 _ _ a6) hLm⟩, (ne_of_none eLo fq2').symm, ne_of_none b6 hLm⟩ (ne_of_none eLo fLm3) (s03.trans s36) (fun c h => ?_) (fun c h => ?_) (none_of' (s1.trans s2) hLo) (none_of' s03 fLm3)
      · rcases h1 with h1 | rfl
        · rcases h2 with h2 | rfl
          · exact h1.2 (g2 c h2.1)
          · exact h1.2 (none_of' (s2.trans s3) fp2)
        · rcases h2 with h2 | e
          · exact h2.2 (none_of' s3 hp1)
          · exact p12 e.symm
      · rcases h with h | rfl
        · exact h.2 (none_of' s2 hLo)
        · rw [eLo] at hp1
          cases hp1
      · rcases h with h | rfl
        · exact h.2 hLo
        · rw [eLo] at fp2
          cases fp2
      · rcases h with h | rfl
        · exact h.2 (none_of' (s2.trans s3) fLm3)
        · rw [s5 _ _ a1] at hLm
          cases hLm
      · rcases h with h | rfl
        · exact h.2 (none_of' s3 fLm3)
        · rw [b1] at hLm
          cases hLm
      · rcases A6 h with e | e
        · exact q1p1 e
        · exact e fq1
      · rcases A6 h with e | e
        · exact q2p1 e
        · exact e fq2'
      · rcases B6 h with e | e
        · exact q1p2 e
        · exact e fq1
      · rcases B6 h with e | e
        · exact q2p2 e
        · exact e fq2'
      · rcases h with h | rfl
        · exact g1 c h.1
        · exact none_of' s03 hp1
      · rcases h with h | rfl
        · exact none_of' s1 (g2 c h.1)
        · exact none_of' s03 fp2
    generalize (fun (j : Nat) (c : Addr) => if j = 0 then ((N1 c ∧ H1 c ≠ none) ∨ c = p1) else ((N2 c ∧ H2 c ≠ none) ∨ c = p2)) = M at t
    generalize (fun (j : Nat) => if j = 0 then u else u2) = o at t
    generalize (fun (j : Nat) => if j = 0 then p1 else p2) = d at t
    generalize (fun (j : Nat) => if j = 0 then q1 else q2) = r at t
    clear s36 s03 a1 a2 a3 a4 a6 a7 b1 b2 b3 b4 b6 b7 s6 eLm s5 s4 fp2 fq2' fLm3 fq1 fq2 hp1 hp2 r1 r2 g1 g2 s3 eLo s2 s1 hLo hLm k1 k2 f1 f2 M1 M2 A6 B6 p12 q1p1 q1p2 q2p1 q2p2
    -- the laps
    refine ⟨_, rfl, .ref a, _, rfl, .inl ⟨_, t.sm.seq hS, rfl⟩, _, _, rfl, _, _, rfl, _, rfl, ?_, ?_, ?_⟩
    · split <;> split <;> omega
    · split <;> split <;> omega
    refine for_range (lo := 0) (fun k σ H' => ∃ (M : Nat → Addr → Prop) (o d r : Nat → Addr) (y3 y4 y5 y6 y7 y8 y9 : Option V), σ = [some (.ref a), some (.ref Lo), some (.ref Lm), y3, y4, y5, y6, y7, y8, y9] ∧ k ≤ 60 ∧ Two H H' CT CO Lo Lm M o d r (1 + k))
      ⟨M, o, d, r, none, none, none, none, none, none, none, rfl, by omega, t⟩ (fun m σ H1 hm hP => ?_) (fun σ H1 hP => q H1)
    have hm60 : m < 60 := by
      revert hm
      split <;> split <;> omega
    clear t
    obtain ⟨M0, o, d, r, y3, y4, y5, y6, y7, y8, y9, rfl, _, t⟩ := hP
    obtain ⟨M, t, al⟩ : ∃ M : Nat → Addr → Prop, Two H H1 CT CO Lo Lm M o d r (1 + m) ∧ ∀ j c, M j c → H1 c ≠ none := ⟨_, t.cut, fun _ _ h => h.2⟩
    refine ⟨_, rfl, _, rfl, a, ns, _, rfl, t.sm.seq hS, hl, by omega, fun z => ⟨z, rfl, fun b H2 hb hB kb => ?_⟩⟩
    have fb : H b = none := none_of' t.sm hb
    have nb : ∀ j, j < 2 → ¬ M j b := fun j _ z => al j b z hb
    have l1 : Lo ≠ b := ne_of_none t.lo hb
    have l2 : Lm ≠ b := ne_of_none t.lm hb
    have l3 : ∀ j, j < 2 → r j ≠ b := fun j hj => by
      obtain ⟨xs, e⟩ := (t.one j hj).row
      exact ne_of_none e hb
    have tb : ∀ {H1 H2 : Hp} {n : Int}, BoxD H1 b n → (∀ c u, c ≠ b → H1 c = some u → H2 c = some u) → KT H1 H2 := fun hB k c ys z => k c _ (fun e => by
      obtain ⟨_, _, _, _, hu, _⟩ := hB
      rw [e, hu] at z
      cases z) z
    replace t := t.kp nb l1 l2 l3 fb (fun c u hc z => (kb c hc).trans z) fun c ys z => (kb c (ne_of_none z hb)).trans z
    refine ⟨_, rfl, b, 8, 0, rfl, hB, by decide, by decide, by decide, fun at0 H3 a0 a1 hB3 k3 => ?_⟩
    replace t := t.kp nb l1 l2 l3 fb (fun c u hc z => (k3 c hc).trans z) (tb hB fun c u hc z => (k3 c hc).trans z)
    refine ⟨rfl, .inr ⟨_, rfl, ?_⟩⟩
    obtain ⟨i, hi, ei⟩ : ∃ i : Nat, i < 2 ∧ (if (decide (V.int at0 = V.int 0)) = true then (1 : Int) else 0) = (i : Int) := by
      split
      · exact ⟨1, by omega, rfl⟩
      · exact ⟨0, by omega, rfl⟩
    rw [ei]
    refine ⟨_, rfl, b, 8, 0 + 1, rfl, hB3, by decide, by decide, by decide, fun cp H4 c0 c1 hB4 k4 => ⟨rfl, ?_⟩⟩
    replace t := t.kp nb l1 l2 l3 fb (fun c u hc z => (k4 c hc).trans z) (tb hB3 fun c u hc z => (k4 c hc).trans z)
    generalize decide (V.int cp = V.int 0) = cpb
    obtain ⟨N, n, ms, ls, ts, x, md, sN, mdM, ndN, hn, hts⟩ := t.one i hi
    have md0 := md
    obtain ⟨kvs, h1, h2, h3, h5, xs, e1, row⟩ := md0
    have hlen := x.len
    have hpos := x.ok.pos
    have hl1 := row.lm
    have en : (fun (i j : Int) => V.int (i / j)) ((xs.length : Nat) : Int) 2 = num n := by
      show V.int _ = V.int _
      rw [hl1, hlen]
      congr 1
      omega
    refine ⟨_, rfl, _, rfl, Lm, _, _, .ref (d i), rfl, rfl, SqL.of t.lm, at2 hi, d i, _, rfl, dgs h1 h3, .ref (r i), _, rfl, .inl ⟨_, SqL.of e1, rfl⟩, _, _, rfl, rfl, ⟨by decide, by decide⟩, ?_⟩
    rw [en]
    clear h1 h2 h3 h5 e1 row hl1 en
    refine ⟨_, rfl, _, rfl, b, 2, n, rfl, hB4, by decide, by omega, by omega, fun j H5 hj hB5 k5 => ?_⟩
    have t5 := t.kp nb l1 l2 l3 fb k5 (tb hB4 k5)
    have x5 := x.kp (fun c u hc z => k5 c u (fun e => nb i hi (e ▸ sN c hc)) z) (tb hB4 k5)
    have md5 := md.kp (fun c u hc z => k5 c u (by rcases hc with rfl | rfl; exact fun e => nb i hi (e ▸ mdM); exact l3 i hi) z) (tb hB4 k5)
    clear t x md
    obtain ⟨w, hw⟩ := x5.has (2 * j) (by omega)
    have hwl := lt_at hw
    obtain ⟨dx, fs, x1, nl⟩ := x5.ins
    have okn : Okd (.int (n : Nat)) 50 0 := numOk (by omega)
    refine ⟨_, rfl, _, rfl, Lo, _, _, .ref (o i), rfl, rfl, SqL.of t5.lo, at2 hi, o i, dx, fs, rfl, x1, nl _ (by decide), _, rfl, N, o i, n, ms, ls, ts, j, w, rfl, x5, hj, by omega, hw, fun H6 x6 f6 kt6 => ?_⟩
    refine ⟨_, _, rfl, .d1 (.dp (.int _)), okn.sh, Nat.le_trans okn.ln (by decide), Nat.le_trans okn.dp (by decide), ?_⟩
    refine ⟨_, rfl, _, _, rfl, .d1 (.dp (.int _)), okn.sh, Nat.le_trans okn.ln (by decide), Nat.le_trans okn.dp (by decide), rfl, _, rfl, ifSame ?_⟩
    have nri : ¬ N (r i) := fun h => t5.nr i i hi hi (sN _ h)
    have md6 := md5.kp (H' := H6) (fun c u hc z => f6 c u (by rcases hc with rfl | rfl; exact ndN; exact nri) z) kt6
    have f6M : ∀ c u, ¬ M i c → H5 c = some u → H6 c = some u := fun c u hc z => f6 c u (fun h => hc (sN c h)) z
    have lm6 := f6M _ _ (t5.nm i hi) t5.lm
    have hB6 : BoxD H6 b 4 := hB5.kp fun u z => f6M _ _ (nb i hi) z
    have x6 := x6.sub (M := fun c => N c ∧ H6 c ≠ none) fun c h1 h2 => ⟨h2, h1⟩
    have ok5 := x5.ok
    refine ⟨_, rfl, _, rfl, Lm, _, _, .ref (d i), rfl, rfl, SqL.of lm6, at2 hi, ?_⟩
    refine ⟨_, rfl, _, rfl, Lm, _, _, .ref (d i), rfl, rfl, SqL.of lm6, at2 hi, _, rfl, _, _, rfl, rfl, .inl ⟨by decide, by decide⟩, ?_⟩
    refine ⟨d i, r i, ms, ls, ts, w, 2 * j, rfl, md6, hw, ok5.nd, by omega, fun ra H7 md7 n7 f7 => ?_⟩
    have ok7 := ok5.put hwl (by omega)
    refine ⟨d i, ra, _, _, _, w + 1, ms.length, rfl, md7, by rw [inl_at (by omega), if_neg (by omega), if_pos rfl], ?_, by rw [inl_len (by omega)]; omega, fun rb H8 md8 n8 f8 => ?_⟩
    · rw [hlen]
      exact ok7.nd
    have dm6 : ∃ kv, H6 (d i) = some (.dK kv) := by
      obtain ⟨kv, e, _⟩ := md6
      exact ⟨kv, e⟩
    have dm7 : ∃ kv, H7 (d i) = some (.dK kv) := by
      obtain ⟨kv, e, _⟩ := md7
      exact ⟨kv, e⟩
    have f68 : ∀ c u, c ≠ d i → H6 c = some u → H8 c = some u := fun c u hc z => f8 c u hc (f7 c u hc z)
    have kt68 : KT H6 H8 := fun c ys z => f68 c _ (fun e => by
      obtain ⟨kv, y⟩ := dm6
      rw [e, y] at z
      cases z) z
    have rbd : rb ≠ d i := fun e => by
      obtain ⟨kv, y⟩ := dm7
      rw [e, y] at n8
      cases n8
    have rb6 : H6 rb = none := by
      cases hx : H6 rb with
      | none => rfl
      | some y =>
        rw [f7 _ _ rbd hx] at n8
        cases n8
    have bd : b ≠ d i := fun e => nb i hi (e ▸ mdM)
    have hB8 : BoxD H8 b 4 := hB6.kp fun u z => f68 _ _ bd z
    have hB7 : BoxD H7 b 4 := hB6.kp fun u z => f7 _ _ bd z
    have x8 := x6.kp (H' := H8) (fun c u hc z => f68 c u (fun e => ndN (e ▸ hc.1)) z) kt68
    rw [inl_len (by omega)] at md8
    have lo6 := f6M _ _ (t5.no i hi) t5.lo
    have t8 := t5.step hi (M' := fun c => M i c ∧ (c = d i ∨ H6 c ≠ none)) (r' := rb) (H' := H8) (cap' := 1 + m + 1) (by omega) (fun c h => h.1)
      ⟨_, n + 1, msG ms w, lsG ls w, tsG ls w ts, x8, md8, fun c h => ⟨sN c h.1, .inr h.2⟩, ⟨mdM, .inl rfl⟩, fun h => ndN h.1, by omega, by have := tsG_le ls w ts; omega⟩
      (fun h => h.2.elim rbd fun z => z rb6) (fun a ha ha2 h => (by
        have z5 : H5 rb ≠ none := fun z => al a rb h (by
          cases hx : H1 rb with
          | none => rfl
          | some y =>
            have hb1 : rb ≠ b := fun e => nb a ha (e ▸ h)
            have := k5 _ _ hb1 ((k4 _ hb1).trans ((k3 _ hb1).trans ((kb _ hb1).trans hx)))
            rw [z] at this
            cases this)
        cases hx : H5 rb with
        | none => exact z5 hx
        | some y =>
          have := f6M _ _ (t5.dis a i rb ha hi ha2 h) hx
          rw [rb6] at this
          cases this)) ⟨(ne_of_none lo6 rb6).symm, (ne_of_none lm6 rb6).symm⟩
      (fun c u hc z => f68 c u (fun e => hc (e ▸ mdM)) (f6M c u hc z)) (kt6.trans kt68)
    have nb8 : ∀ j, j < 2 → ¬ (if j = i then (M i b ∧ (b = d i ∨ H6 b ≠ none)) else M j b) := fun j hj h => by
      by_cases e : j = i
      · simp only [e, if_true] at h
        exact nb i hi h.1
      · simp only [e, if_false] at h
        exact nb j hj h
    have l38 : ∀ j, j < 2 → (if j = i then rb else r j) ≠ b := fun j hj => by
      by_cases e : j = i
      · simp only [e, if_true]
        exact hB7.ne n8
      · simp only [e, if_false]
        exact l3 j hj
    obtain ⟨M8, r8, t9, nb9, l39⟩ : ∃ M8 r8, Two H H8 CT CO Lo Lm M8 o d r8 (1 + m + 1) ∧ (∀ j, j < 2 → ¬ M8 j b) ∧ ∀ j, j < 2 → r8 j ≠ b := ⟨_, _, t8, nb8, l38⟩
    clear t8 nb8 l38 x8 md8 f68 kt68 n8 rb6 rbd dm6 dm7 bd hB7 md7 f7 f8 n7 x6 md6 f6 kt6 f6M x5 md5 t5 ok5 ok7 hw hwl x1 nl okn hlen hpos hn hts sN mdM ndN nri hB6 hB5 hB4 hB3 hB lm6 lo6 l3 nb al ei k5 k4 k3 kb
    obtain ⟨M, t, al⟩ : ∃ M : Nat → Addr → Prop, Two H H8 CT CO Lo Lm M o d r8 (1 + m + 1) ∧ (∀ j, j < 2 → ∀ c, M j c → H8 c ≠ none) ∧ ∀ j, j < 2 → ¬ M j b := ⟨_, t9.cut, fun _ _ _ h => h.2, fun j hj h => nb9 j hj h.1⟩
    obtain ⟨al, nb⟩ := al
    clear t9 nb9
    have hb8 : H8 b ≠ none := by
      obtain ⟨u, hu⟩ := hB8.some
      rw [hu]
      simp
    refine ⟨_, rfl, _, rfl, ?_⟩
    refine ite2 (fun hcp => ?_) (fun hcp => ?_)
    focus
      obtain ⟨N, nn, ms, ls, ts, x, md, sN, mdM, ndN, hn, hts⟩ := t.one i hi
      obtain ⟨dx, fs, x1, nl⟩ := x.ins
      obtain ⟨kvs, h1, h2, h3, h5, xs, e1, row⟩ := md
      refine ⟨_, rfl, _, rfl, Lo, _, _, .ref (o i), rfl, rfl, SqL.of t.lo, at2 hi, o i, dx, fs, rfl, x1, nl _ (by decide), N, o i, nn, ms, ls, ts, rfl, x, fun u H9 N9 nu x9 f9 s9 => ?_⟩
      have hix : ixN [V.ref (o 0), V.ref (o 1)].length (1 - ((i : Nat) : Int)) = some (1 - i) := by
        rcases (by omega : i = 0 ∨ i = 1) with rfl | rfl <;> rfl
      have hix2 : ixN [V.ref (d 0), V.ref (d 1)].length (1 - ((i : Nat) : Int)) = some (1 - i) := hix
      refine ⟨_, rfl, _, rfl, _, _, rfl, rfl, Lo, _, _, 1 - i, rfl, rfl, s9 _ _ t.lo, hix, ?_⟩
      have x9 := x9.sub (M := fun c => N9 c ∧ H9 c ≠ none) fun c h1 h2 => ⟨h2, h1⟩
      have k7 : ∀ c x, c ≠ Lo → H9 c = some x → (upd H9 Lo (.lst ([V.ref (o 0), V.ref (o 1)].set (1 - i) (.ref u)))) c = some x := fun c x hc z => by
        rw [upd_ne hc]
        exact z
      have e7Lo : (upd H9 Lo (.lst ([V.ref (o 0), V.ref (o 1)].set (1 - i) (.ref u)))) Lo = some (.lst ([V.ref (o 0), V.ref (o 1)].set (1 - i) (.ref u))) := upd_same
      have n7 : ∀ c, (upd H9 Lo (.lst ([V.ref (o 0), V.ref (o 1)].set (1 - i) (.ref u)))) c = none → H9 c = none := fun c z => by
        have hc : c ≠ Lo := fun e => by rw [e, upd_same] at z; cases z
        rw [upd_ne hc] at z
        exact z
      generalize upd H9 Lo (.lst ([V.ref (o 0), V.ref (o 1)].set (1 - i) (.ref u))) = HA at *
      have dLo : d i ≠ Lo := fun e => t.no i hi (e ▸ mdM)
      have dLm : d i ≠ Lm := fun e => t.nm i hi (e ▸ mdM)
      have rLo := (t.rl i hi).1
      have rLm := (t.rl i hi).2
      have w7m : HA Lm = some (.lst [.ref (d 0), .ref (d 1)]) := k7 _ _ t.ne.symm (s9 _ _ t.lm)
      have w7d := k7 _ _ dLo (s9 _ _ h1)
      have w7r := k7 _ _ rLo (s9 _ _ e1)
      refine ⟨_, rfl, _, rfl, Lm, _, _, .ref (d i), rfl, rfl, SqL.of w7m, at2 hi, d i, _, rfl, .inl w7d, fun p hp => ?_⟩
      have pLm : p ≠ Lm := fun e => by rw [e, w7m] at hp; cases hp
      have q8 := same_new (o := .dK kvs) hp
      have e8p : (upd HA p (.dK kvs)) p = some (.dK kvs) := upd_same
      generalize upd HA p (.dK kvs) = HB at *
      refine ⟨_, rfl, _, rfl, _, _, rfl, rfl, Lm, _, _, 1 - i, rfl, rfl, q8 _ _ w7m, hix2, ?_⟩
      have k9 : ∀ c x, c ≠ Lm → HB c = some x → (upd HB Lm (.lst ([V.ref (d 0), V.ref (d 1)].set (1 - i) (.ref p)))) c = some x := fun c x hc z => by
        rw [upd_ne hc]
        exact z
      have e9Lm : (upd HB Lm (.lst ([V.ref (d 0), V.ref (d 1)].set (1 - i) (.ref p)))) Lm = some (.lst ([V.ref (d 0), V.ref (d 1)].set (1 - i) (.ref p))) := upd_same
      generalize upd HB Lm (.lst ([V.ref (d 0), V.ref (d 1)].set (1 - i) (.ref p))) = HC at *
      have np9 := n7 _ hp
      have np8 : H8 p = none := none_of' s9 np9
      have kk : ∀ c x, c ≠ Lo → c ≠ Lm → H9 c = some x → HC c = some x := fun c x c1 c2 z => k9 _ _ c2 (q8 _ _ (k7 _ _ c1 z))
      have kt9 : KT H8 HC := fun c ys z => kk c _ (fun e => by rw [e, t.lo] at z; cases z) (fun e => by rw [e, t.lm] at z; cases z) (s9 _ _ z)
      have kt99 : KT H9 HC := fun c ys z => kk c _ (fun e => by
        have := s9 _ _ t.lo
        rw [e, this] at z
        cases z) (fun e => by
        have := s9 _ _ t.lm
        rw [e, this] at z
        cases z) z
      have nw : One (fun c => N9 c ∨ c = p) HC CT CO u p (r8 i) (1 + m + 1) := ⟨_, nn, ms, ls, ts, x9.kp (fun c x hc z => kk c x (fun e => by
          have := f9 c hc.1
          rw [e, t.lo] at this
          cases this) (fun e => by
          have := f9 c hc.1
          rw [e, t.lm] at this
          cases this) z) kt99, ⟨kvs, k9 _ _ pLm e8p, h2, h3, h5, xs, k9 _ _ rLm (q8 _ _ w7r), row.kp kt9⟩, fun c h => .inl h.1, .inr rfl, fun h => h.2 np9, hn, hts⟩
      obtain ⟨M9, o9, d9, r9, t9, nb9, l39⟩ := t.copy al hi nw (fun c hc => by
        rcases hc with h | rfl
        · exact f9 c h
        · exact np8) (k9 _ _ t.ne (q8 _ _ e7Lo)) e9Lm (fun c x c1 c2 z => kk c x c1 c2 (s9 _ _ z)) hb8 nb l39
      have hB9 : BoxD HC b 4 := hB8.kp fun u z => kk _ _ l1.symm l2.symm (s9 _ _ z)
      clear hcp
    rotate_left
    focus
      obtain ⟨M9, rfl⟩ : ∃ X, X = M := ⟨_, rfl⟩
      obtain ⟨o9, rfl⟩ : ∃ X, X = o := ⟨_, rfl⟩
      obtain ⟨d9, rfl⟩ : ∃ X, X = d := ⟨_, rfl⟩
      obtain ⟨r9, rfl⟩ : ∃ X, X = r8 := ⟨_, rfl⟩
      obtain ⟨HC, rfl⟩ : ∃ X, X = H8 := ⟨_, rfl⟩
      have t9 := t
      have nb9 := nb
      have hB9 := hB8
      clear hcp
    all_goals
      clear t al nb hb8 hB8
      refine ⟨_, rfl, _, rfl, _, _, rfl, rfl, (by show 2 ≤ sizeLine; decide), fun l hl => ⟨l, rfl, ⟨_, SqL.of upd_same⟩, ?_⟩⟩
      have sl := same_new (o := .lst [V.int ((i : Nat) : Int), V.int (1 - ((i : Nat) : Int))]) hl
      have el : (upd HC l (.lst [V.int ((i : Nat) : Int), V.int (1 - ((i : Nat) : Int))])) l = some (.lst [V.int ((i : Nat) : Int), V.int (1 - ((i : Nat) : Int))]) := upd_same
      have lb : l ≠ b := hB9.ne hl
      have hBD := hB9.kp fun u z => sl _ _ z
      generalize upd HC l (.lst [V.int ((i : Nat) : Int), V.int (1 - ((i : Nat) : Int))]) = HD at *
      have tD := t9.same sl
      refine for_list (xs := [V.int ((i : Nat) : Int), V.int (1 - ((i : Nat) : Int))]) (fun k σ H' => Two H H' CT CO Lo Lm M9 o9 d9 r9 (1 + m + 1) ∧ BoxD H' b (4 + 2 * (k : Nat)) ∧ H' l = some (.lst [V.int ((i : Nat) : Int), V.int (1 - ((i : Nat) : Int))]) ∧ ∃ y9 : Option V, σ = [some (.ref a), some (.ref Lo), some (.ref Lm), some (.int (0 + (m : Nat))), some (.ref b), some (.int (i : Nat)), some (.bl cpb), some (num n), some (num j), y9])
        ⟨tD, hBD.up (by omega), el, _, rfl⟩ (fun k σ H' _ hP => SqL.of hP.2.2.1) (fun k v σ H' hv hP => ?_) (fun σ H' hP => ?_)
      · obtain ⟨tE, hBE, lE, y9, rfl⟩ := hP
        have hk : k < 2 := by
          by_cases z : k < 2
          · exact z
          · rw [List.getElem?_eq_none (by show 2 ≤ k; omega)] at hv
            cases hv
        obtain ⟨jj, hjj, rfl⟩ : ∃ jj : Nat, jj < 2 ∧ v = V.int (jj : Int) := by
          rcases (by omega : k = 0 ∨ k = 1) with rfl | rfl
          · exact ⟨i, hi, (Option.some.inj hv).symm⟩
          · refine ⟨1 - i, by omega, (Option.some.inj hv).symm.trans ?_⟩
            show V.int _ = V.int _
            congr 1
            omega
        obtain ⟨N, n2, ms, ls, ts, x, md, sN, mdM, ndN, hn, hts⟩ := tE.one jj hjj
        refine ⟨_, rfl, _, rfl, _, rfl, Lo, _, _, .ref (o9 jj), rfl, rfl, SqL.of tE.lo, at2 hjj, _, rfl, _, rfl, Lm, _, _, .ref (d9 jj), rfl, rfl, SqL.of tE.lm, at2 hjj, ?_⟩
        refine ⟨N, b, o9 jj, d9 jj, r9 jj, n2, ms, ls, ts, 4 + 2 * (k : Nat), rfl, hBE, by omega, x, md, fun h => nb9 jj hjj (sN _ h), fun e => nb9 jj hjj (e ▸ mdM), l39 jj hjj, by omega, by omega, fun H2 hB2 k2 => ⟨_, rfl, iteF ?_⟩⟩
        refine ⟨tE.kp nb9 l1 l2 l39 fb k2 (fun c ys z => k2 c _ (fun e => by
          obtain ⟨_, _, _, _, hu, _⟩ := hBE
          rw [e, hu] at z
          cases z) z), hB2.up (by omega), k2 _ _ lb lE, _, rfl⟩
      · obtain ⟨tE, hBE, lE, y9, rfl⟩ := hP
        exact ⟨M9, o9, d9, r9, _, _, _, _, _, _, _, rfl, by omega, tE⟩
end
end K16
namespace K16
open PySem PySem.Spec PyProof.Rows L2 Gd Gs Ge
open C8 (clsBody Met)
theorem kit_self {K : PySem.W.Frag} {S : Addr} : PySem.W.kitOne K (.ref S) (.ref S) = some true := by
  simp [PySem.W.kitOne]
theorem all_mk {l : PySem.W.OpenLaw} {w : World} {K : PySem.W.Frag} {h : Heap} {mg : Str → Option Value} {fa : Addr} (X : K.In h) (G : h.Ns mainGlobals mg) (hfa : mg "law" = some (.ref fa))
    {f0 : Addr}
    {od0 an0 : Option Addr}
    {sl0 : Array (Option Value)}
    {oc0 kV0 dc0 pm0 cd0 ct0 : Value}
    {f1 : Addr}
    {od1 an1 : Option Addr}
    {sl1 : Array (Option Value)}
    {oc1 kV1 dc1 pm1 cd1 ct1 : Value}
    {f2 : Addr}
    {od2 an2 : Option Addr}
    {sl2 : Array (Option Value)}
    {oc2 kV2 dc2 pm2 cd2 ct2 : Value}
    {f3 : Addr}
    {od3 an3 : Option Addr}
    {sl3 : Array (Option Value)}
    {oc3 kV3 dc3 pm3 cd3 ct3 : Value}
    {f4 : Addr}
    {od4 an4 : Option Addr}
    {sl4 : Array (Option Value)}
    {oc4 kV4 dc4 pm4 cd4 ct4 : Value}
    {f5 : Addr}
    {od5 an5 : Option Addr}
    {sl5 : Array (Option Value)}
    {oc5 kV5 dc5 pm5 cd5 ct5 : Value}
    {f6 : Addr}
    {od6 an6 : Option Addr}
    {sl6 : Array (Option Value)}
    {oc6 kV6 dc6 pm6 cd6 ct6 : Value}
    {f7 : Addr}
    {od7 an7 : Option Addr}
    {sl7 : Array (Option Value)}
    {oc7 kV7 dc7 pm7 cd7 ct7 : Value}
    {f8 : Addr}
    {od8 an8 : Option Addr}
    {sl8 : Array (Option Value)}
    {oc8 kV8 dc8 pm8 cd8 ct8 : Value}
    {f9 : Addr}
    {od9 an9 : Option Addr}
    {sl9 : Array (Option Value)}
    {oc9 kV9 dc9 pm9 cd9 ct9 : Value}
    {t_MOST_MARKS : Tok}
    {t_LABELS : Tok}
    {t_MOST_MAKES : Tok}
    {CO : Addr}
    {f_CO_many : Addr}
    {od_CO_many an_CO_many : Option Addr}
    {sl_CO_many : Array (Option Value)}
    {oc_CO_many kV_CO_many dc_CO_many pm_CO_many cd_CO_many ct_CO_many : Value}
    {f_CO_need_mark : Addr}
    {od_CO_need_mark an_CO_need_mark : Option Addr}
    {sl_CO_need_mark : Array (Option Value)}
    {oc_CO_need_mark kV_CO_need_mark dc_CO_need_mark pm_CO_need_mark cd_CO_need_mark ct_CO_need_mark : Value}
    {f_CO_label : Addr}
    {od_CO_label an_CO_label : Option Addr}
    {sl_CO_label : Array (Option Value)}
    {oc_CO_label kV_CO_label dc_CO_label pm_CO_label cd_CO_label ct_CO_label : Value}
    {f_CO_label_at : Addr}
    {od_CO_label_at an_CO_label_at : Option Addr}
    {sl_CO_label_at : Array (Option Value)}
    {oc_CO_label_at kV_CO_label_at dc_CO_label_at pm_CO_label_at cd_CO_label_at ct_CO_label_at : Value}
    {f_CO_marks : Addr}
    {od_CO_marks an_CO_marks : Option Addr}
    {sl_CO_marks : Array (Option Value)}
    {oc_CO_marks kV_CO_marks dc_CO_marks pm_CO_marks cd_CO_marks ct_CO_marks : Value}
    {f_CO_anew : Addr}
    {od_CO_anew an_CO_anew : Option Addr}
    {sl_CO_anew : Array (Option Value)}
    {oc_CO_anew kV_CO_anew dc_CO_anew pm_CO_anew cd_CO_anew ct_CO_anew : Value}
    {f_CO_label_anew : Addr}
    {od_CO_label_anew an_CO_label_anew : Option Addr}
    {sl_CO_label_anew : Array (Option Value)}
    {oc_CO_label_anew kV_CO_label_anew dc_CO_label_anew pm_CO_label_anew cd_CO_label_anew ct_CO_label_anew : Value}
    {f_CO_behind : Addr}
    {od_CO_behind an_CO_behind : Option Addr}
    {sl_CO_behind : Array (Option Value)}
    {oc_CO_behind kV_CO_behind dc_CO_behind pm_CO_behind cd_CO_behind ct_CO_behind : Value}
    {f_CO_copied : Addr}
    {od_CO_copied an_CO_copied : Option Addr}
    {sl_CO_copied : Array (Option Value)}
    {oc_CO_copied kV_CO_copied dc_CO_copied pm_CO_copied cd_CO_copied ct_CO_copied : Value}
    {f_CO_init : Addr}
    {od_CO_init an_CO_init : Option Addr}
    {sl_CO_init : Array (Option Value)}
    {oc_CO_init kV_CO_init dc_CO_init pm_CO_init cd_CO_init ct_CO_init : Value}
    {CT : Addr}
    {f_CT_many : Addr}
    {od_CT_many an_CT_many : Option Addr}
    {sl_CT_many : Array (Option Value)}
    {oc_CT_many kV_CT_many dc_CT_many pm_CT_many cd_CT_many ct_CT_many : Value}
    {f_CT_need_make : Addr}
    {od_CT_need_make an_CT_need_make : Option Addr}
    {sl_CT_need_make : Array (Option Value)}
    {oc_CT_need_make kV_CT_need_make dc_CT_need_make pm_CT_need_make cd_CT_need_make ct_CT_need_make : Value}
    {f_CT_grow : Addr}
    {od_CT_grow an_CT_grow : Option Addr}
    {sl_CT_grow : Array (Option Value)}
    {oc_CT_grow kV_CT_grow dc_CT_grow pm_CT_grow cd_CT_grow ct_CT_grow : Value}
    {f_CT_marks_of : Addr}
    {od_CT_marks_of an_CT_marks_of : Option Addr}
    {sl_CT_marks_of : Array (Option Value)}
    {oc_CT_marks_of kV_CT_marks_of dc_CT_marks_of pm_CT_marks_of cd_CT_marks_of ct_CT_marks_of : Value}
    {f_CT_order : Addr}
    {od_CT_order an_CT_order : Option Addr}
    {sl_CT_order : Array (Option Value)}
    {oc_CT_order kV_CT_order dc_CT_order pm_CT_order cd_CT_order ct_CT_order : Value}
    {f_CT_makes_by : Addr}
    {od_CT_makes_by an_CT_makes_by : Option Addr}
    {sl_CT_makes_by : Array (Option Value)}
    {oc_CT_makes_by kV_CT_makes_by dc_CT_makes_by pm_CT_makes_by cd_CT_makes_by ct_CT_makes_by : Value}
    {f_CT_coming : Addr}
    {od_CT_coming an_CT_coming : Option Addr}
    {sl_CT_coming : Array (Option Value)}
    {oc_CT_coming kV_CT_coming dc_CT_coming pm_CT_coming cd_CT_coming ct_CT_coming : Value}
    {f_CT_leaving : Addr}
    {od_CT_leaving an_CT_leaving : Option Addr}
    {sl_CT_leaving : Array (Option Value)}
    {oc_CT_leaving kV_CT_leaving dc_CT_leaving pm_CT_leaving cd_CT_leaving ct_CT_leaving : Value}
    {f_CT_copied : Addr}
    {od_CT_copied an_CT_copied : Option Addr}
    {sl_CT_copied : Array (Option Value)}
    {oc_CT_copied kV_CT_copied dc_CT_copied pm_CT_copied cd_CT_copied ct_CT_copied : Value}
    {f_CT_init : Addr}
    {od_CT_init an_CT_init : Option Addr}
    {sl_CT_init : Array (Option Value)}
    {oc_CT_init kV_CT_init dc_CT_init pm_CT_init cd_CT_init ct_CT_init : Value}
    (a0 : PySem.W.nsIn K mainGlobals "is_whole" = some (some (.ref f0)))
    (l0 : K.lookup f0 = some ⟨oc0, od0, .func (PySem.W.fnOf "is_whole" "is_whole" (defArgs s_is_whole) (defBody s_is_whole) (defScope s_is_whole) .none kV0 dc0 pm0 an0 cd0 ct0), sl0⟩)
    (c0 : PySem.W.codeIn K cd0 "is_whole" = true)
    (k0 : PySem.W.keepIn K (.ref f0) = true)
    (a1 : PySem.W.nsIn K mainGlobals "_law_cell_at" = some (some (.ref f1)))
    (l1 : K.lookup f1 = some ⟨oc1, od1, .func (PySem.W.fnOf "_law_cell_at" "_law_cell_at" (defArgs s__law_cell_at) (defBody s__law_cell_at) (defScope s__law_cell_at) .none kV1 dc1 pm1 an1 cd1 ct1), sl1⟩)
    (c1 : PySem.W.codeIn K cd1 "_law_cell_at" = true)
    (k1 : PySem.W.keepIn K (.ref f1) = true)
    (a2 : PySem.W.nsIn K mainGlobals "_law_box" = some (some (.ref f2)))
    (l2 : K.lookup f2 = some ⟨oc2, od2, .func (PySem.W.fnOf "_law_box" "_law_box" (defArgs s__law_box) (defBody s__law_box) (defScope s__law_box) .none kV2 dc2 pm2 an2 cd2 ct2), sl2⟩)
    (c2 : PySem.W.codeIn K cd2 "_law_box" = true)
    (k2 : PySem.W.keepIn K (.ref f2) = true)
    (a3 : PySem.W.nsIn K mainGlobals "_law_take" = some (some (.ref f3)))
    (l3 : K.lookup f3 = some ⟨oc3, od3, .func (PySem.W.fnOf "_law_take" "_law_take" (defArgs s__law_take) (defBody s__law_take) (defScope s__law_take) .none kV3 dc3 pm3 an3 cd3 ct3), sl3⟩)
    (c3 : PySem.W.codeIn K cd3 "_law_take" = true)
    (k3 : PySem.W.keepIn K (.ref f3) = true)
    (a4 : PySem.W.nsIn K mainGlobals "_law_end" = some (some (.ref f4)))
    (l4 : K.lookup f4 = some ⟨oc4, od4, .func (PySem.W.fnOf "_law_end" "_law_end" (defArgs s__law_end) (defBody s__law_end) (defScope s__law_end) .none kV4 dc4 pm4 an4 cd4 ct4), sl4⟩)
    (c4 : PySem.W.codeIn K cd4 "_law_end" = true)
    (k4 : PySem.W.keepIn K (.ref f4) = true)
    (a5 : PySem.W.nsIn K mainGlobals "_law_lay" = some (some (.ref f5)))
    (l5 : K.lookup f5 = some ⟨oc5, od5, .func (PySem.W.fnOf "_law_lay" "_law_lay" (defArgs s__law_lay) (defBody s__law_lay) (defScope s__law_lay) .none kV5 dc5 pm5 an5 cd5 ct5), sl5⟩)
    (c5 : PySem.W.codeIn K cd5 "_law_lay" = true)
    (k5 : PySem.W.keepIn K (.ref f5) = true)
    (a6 : PySem.W.nsIn K mainGlobals "_law_one_of" = some (some (.ref f6)))
    (l6 : K.lookup f6 = some ⟨oc6, od6, .func (PySem.W.fnOf "_law_one_of" "_law_one_of" (defArgs s__law_one_of) (defBody s__law_one_of) (defScope s__law_one_of) .none kV6 dc6 pm6 an6 cd6 ct6), sl6⟩)
    (c6 : PySem.W.codeIn K cd6 "_law_one_of" = true)
    (k6 : PySem.W.keepIn K (.ref f6) = true)
    (a7 : PySem.W.nsIn K mainGlobals "_law_lists_right" = some (some (.ref f7)))
    (l7 : K.lookup f7 = some ⟨oc7, od7, .func (PySem.W.fnOf "_law_lists_right" "_law_lists_right" (defArgs s__law_lists_right) (defBody s__law_lists_right) (defScope s__law_lists_right) .none kV7 dc7 pm7 an7 cd7 ct7), sl7⟩)
    (c7 : PySem.W.codeIn K cd7 "_law_lists_right" = true)
    (k7 : PySem.W.keepIn K (.ref f7) = true)
    (a8 : PySem.W.nsIn K mainGlobals "_law_right" = some (some (.ref f8)))
    (l8 : K.lookup f8 = some ⟨oc8, od8, .func (PySem.W.fnOf "_law_right" "_law_right" (defArgs s__law_right) (defBody s__law_right) (defScope s__law_right) .none kV8 dc8 pm8 an8 cd8 ct8), sl8⟩)
    (c8 : PySem.W.codeIn K cd8 "_law_right" = true)
    (k8 : PySem.W.keepIn K (.ref f8) = true)
    (a9 : PySem.W.nsIn K mainGlobals "law" = some (some (.ref f9)))
    (l9 : K.lookup f9 = some ⟨oc9, od9, .func (PySem.W.fnOf "law" "law" (defArgs s_law) (defBody s_law) (defScope s_law) .none kV9 dc9 pm9 an9 cd9 ct9), sl9⟩)
    (c9 : PySem.W.codeIn K cd9 "law" = true)
    (k9 : PySem.W.keepIn K (.ref f9) = true)
    (z_len : PySem.W.nsIn K mainGlobals "len" = some none)
    (z_max : PySem.W.nsIn K mainGlobals "max" = some none)
    (z_min : PySem.W.nsIn K mainGlobals "min" = some none)
    (z_range : PySem.W.nsIn K mainGlobals "range" = some none)
    (z_repr : PySem.W.nsIn K mainGlobals "repr" = some none)
    (z_isinstance : PySem.W.nsIn K mainGlobals "isinstance" = some none)
    (z_enumerate : PySem.W.nsIn K mainGlobals "enumerate" = some none)
    (z_int : PySem.W.nsIn K mainGlobals "int" = some none)
    (z_bool : PySem.W.nsIn K mainGlobals "bool" = some none)
    (z_list : PySem.W.nsIn K mainGlobals "list" = some none)
    (z_dict : PySem.W.nsIn K mainGlobals "dict" = some none)
    (i_MOST_MARKS : PySem.W.nsIn K mainGlobals "MOST_MARKS" = some (some (.int 200 t_MOST_MARKS)))
    (i_LABELS : PySem.W.nsIn K mainGlobals "LABELS" = some (some (.int 1024 t_LABELS)))
    (i_MOST_MAKES : PySem.W.nsIn K mainGlobals "MOST_MAKES" = some (some (.int 64 t_MOST_MAKES)))
    (a_CO : PySem.W.nsIn K mainGlobals "Order" = some (some (.ref CO)))
    (pg_CO : PySem.W.plainGet K CO Str.empty = true)
    (hd_CO : PySem.W.hasDictIn K CO = true)
    (po_CO : PySem.W.plainOver K CO = true)
    (sa_CO : PySem.W.findIn K (.ref CO) "__setattr__" = some (some (.builtin "object.__setattr__")))
    (no_CO__marks : PySem.W.findIn K (.ref CO) "_marks" = some none)
    (no_CO__labels : PySem.W.findIn K (.ref CO) "_labels" = some none)
    (no_CO__given : PySem.W.findIn K (.ref CO) "_given" = some none)
    (no_CO__times : PySem.W.findIn K (.ref CO) "_times" = some none)
    (mk_CO : PySem.W.makesIn K CO = true)
    (kp_CO : PySem.W.keepIn K (.ref CO) = true)
    (m_CO_many : PySem.W.findIn K (.ref CO) "many" = some (some (.ref f_CO_many)))
    (l_CO_many : K.lookup f_CO_many = some ⟨oc_CO_many, od_CO_many, .func (PySem.W.fnOf "many" "Order.many" (defArgs s_Order_many) (defBody s_Order_many) (defScope s_Order_many) .none kV_CO_many dc_CO_many pm_CO_many an_CO_many cd_CO_many ct_CO_many), sl_CO_many⟩)
    (c_CO_many : PySem.W.codeIn K cd_CO_many "Order.many" = true)
    (k_CO_many : PySem.W.keepIn K (.ref f_CO_many) = true)
    (y_CO_many : PySem.W.isFn K (.ref f_CO_many) = true)
    (m_CO_need_mark : PySem.W.findIn K (.ref CO) "_need_mark" = some (some (.ref f_CO_need_mark)))
    (l_CO_need_mark : K.lookup f_CO_need_mark = some ⟨oc_CO_need_mark, od_CO_need_mark, .func (PySem.W.fnOf "_need_mark" "Order._need_mark" (defArgs s_Order__need_mark) (defBody s_Order__need_mark) (defScope s_Order__need_mark) .none kV_CO_need_mark dc_CO_need_mark pm_CO_need_mark an_CO_need_mark cd_CO_need_mark ct_CO_need_mark), sl_CO_need_mark⟩)
    (c_CO_need_mark : PySem.W.codeIn K cd_CO_need_mark "Order._need_mark" = true)
    (k_CO_need_mark : PySem.W.keepIn K (.ref f_CO_need_mark) = true)
    (y_CO_need_mark : PySem.W.isFn K (.ref f_CO_need_mark) = true)
    (m_CO_label : PySem.W.findIn K (.ref CO) "label" = some (some (.ref f_CO_label)))
    (l_CO_label : K.lookup f_CO_label = some ⟨oc_CO_label, od_CO_label, .func (PySem.W.fnOf "label" "Order.label" (defArgs s_Order_label) (defBody s_Order_label) (defScope s_Order_label) .none kV_CO_label dc_CO_label pm_CO_label an_CO_label cd_CO_label ct_CO_label), sl_CO_label⟩)
    (c_CO_label : PySem.W.codeIn K cd_CO_label "Order.label" = true)
    (k_CO_label : PySem.W.keepIn K (.ref f_CO_label) = true)
    (y_CO_label : PySem.W.isFn K (.ref f_CO_label) = true)
    (m_CO_label_at : PySem.W.findIn K (.ref CO) "_label_at" = some (some (.ref f_CO_label_at)))
    (l_CO_label_at : K.lookup f_CO_label_at = some ⟨oc_CO_label_at, od_CO_label_at, .func (PySem.W.fnOf "_label_at" "Order._label_at" (defArgs s_Order__label_at) (defBody s_Order__label_at) (defScope s_Order__label_at) .none kV_CO_label_at dc_CO_label_at pm_CO_label_at an_CO_label_at cd_CO_label_at ct_CO_label_at), sl_CO_label_at⟩)
    (c_CO_label_at : PySem.W.codeIn K cd_CO_label_at "Order._label_at" = true)
    (k_CO_label_at : PySem.W.keepIn K (.ref f_CO_label_at) = true)
    (y_CO_label_at : PySem.W.isFn K (.ref f_CO_label_at) = true)
    (m_CO_marks : PySem.W.findIn K (.ref CO) "marks" = some (some (.ref f_CO_marks)))
    (l_CO_marks : K.lookup f_CO_marks = some ⟨oc_CO_marks, od_CO_marks, .func (PySem.W.fnOf "marks" "Order.marks" (defArgs s_Order_marks) (defBody s_Order_marks) (defScope s_Order_marks) .none kV_CO_marks dc_CO_marks pm_CO_marks an_CO_marks cd_CO_marks ct_CO_marks), sl_CO_marks⟩)
    (c_CO_marks : PySem.W.codeIn K cd_CO_marks "Order.marks" = true)
    (k_CO_marks : PySem.W.keepIn K (.ref f_CO_marks) = true)
    (y_CO_marks : PySem.W.isFn K (.ref f_CO_marks) = true)
    (m_CO_anew : PySem.W.findIn K (.ref CO) "anew" = some (some (.ref f_CO_anew)))
    (l_CO_anew : K.lookup f_CO_anew = some ⟨oc_CO_anew, od_CO_anew, .func (PySem.W.fnOf "anew" "Order.anew" (defArgs s_Order_anew) (defBody s_Order_anew) (defScope s_Order_anew) .none kV_CO_anew dc_CO_anew pm_CO_anew an_CO_anew cd_CO_anew ct_CO_anew), sl_CO_anew⟩)
    (c_CO_anew : PySem.W.codeIn K cd_CO_anew "Order.anew" = true)
    (k_CO_anew : PySem.W.keepIn K (.ref f_CO_anew) = true)
    (y_CO_anew : PySem.W.isFn K (.ref f_CO_anew) = true)
    (m_CO_label_anew : PySem.W.findIn K (.ref CO) "_label_anew" = some (some (.ref f_CO_label_anew)))
    (l_CO_label_anew : K.lookup f_CO_label_anew = some ⟨oc_CO_label_anew, od_CO_label_anew, .func (PySem.W.fnOf "_label_anew" "Order._label_anew" (defArgs s_Order__label_anew) (defBody s_Order__label_anew) (defScope s_Order__label_anew) .none kV_CO_label_anew dc_CO_label_anew pm_CO_label_anew an_CO_label_anew cd_CO_label_anew ct_CO_label_anew), sl_CO_label_anew⟩)
    (c_CO_label_anew : PySem.W.codeIn K cd_CO_label_anew "Order._label_anew" = true)
    (k_CO_label_anew : PySem.W.keepIn K (.ref f_CO_label_anew) = true)
    (y_CO_label_anew : PySem.W.isFn K (.ref f_CO_label_anew) = true)
    (m_CO_behind : PySem.W.findIn K (.ref CO) "behind" = some (some (.ref f_CO_behind)))
    (l_CO_behind : K.lookup f_CO_behind = some ⟨oc_CO_behind, od_CO_behind, .func (PySem.W.fnOf "behind" "Order.behind" (defArgs s_Order_behind) (defBody s_Order_behind) (defScope s_Order_behind) .none kV_CO_behind dc_CO_behind pm_CO_behind an_CO_behind cd_CO_behind ct_CO_behind), sl_CO_behind⟩)
    (c_CO_behind : PySem.W.codeIn K cd_CO_behind "Order.behind" = true)
    (k_CO_behind : PySem.W.keepIn K (.ref f_CO_behind) = true)
    (y_CO_behind : PySem.W.isFn K (.ref f_CO_behind) = true)
    (m_CO_copied : PySem.W.findIn K (.ref CO) "copied" = some (some (.ref f_CO_copied)))
    (l_CO_copied : K.lookup f_CO_copied = some ⟨oc_CO_copied, od_CO_copied, .func (PySem.W.fnOf "copied" "Order.copied" (defArgs s_Order_copied) (defBody s_Order_copied) (defScope s_Order_copied) .none kV_CO_copied dc_CO_copied pm_CO_copied an_CO_copied cd_CO_copied ct_CO_copied), sl_CO_copied⟩)
    (c_CO_copied : PySem.W.codeIn K cd_CO_copied "Order.copied" = true)
    (k_CO_copied : PySem.W.keepIn K (.ref f_CO_copied) = true)
    (y_CO_copied : PySem.W.isFn K (.ref f_CO_copied) = true)
    (m_CO_init : PySem.W.findIn K (.ref CO) "__init__" = some (some (.ref f_CO_init)))
    (l_CO_init : K.lookup f_CO_init = some ⟨oc_CO_init, od_CO_init, .func (PySem.W.fnOf "__init__" "Order.__init__" (defArgs s_Order___init__) (defBody s_Order___init__) (defScope s_Order___init__) .none kV_CO_init dc_CO_init pm_CO_init an_CO_init cd_CO_init ct_CO_init), sl_CO_init⟩)
    (c_CO_init : PySem.W.codeIn K cd_CO_init "Order.__init__" = true)
    (k_CO_init : PySem.W.keepIn K (.ref f_CO_init) = true)
    (y_CO_init : PySem.W.isFn K (.ref f_CO_init) = true)
    (a_CT : PySem.W.nsIn K mainGlobals "Tour" = some (some (.ref CT)))
    (pg_CT : PySem.W.plainGet K CT Str.empty = true)
    (hd_CT : PySem.W.hasDictIn K CT = true)
    (po_CT : PySem.W.plainOver K CT = true)
    (sa_CT : PySem.W.findIn K (.ref CT) "__setattr__" = some (some (.builtin "object.__setattr__")))
    (no_CT__order : PySem.W.findIn K (.ref CT) "_order" = some none)
    (no_CT__marks : PySem.W.findIn K (.ref CT) "_marks" = some none)
    (mk_CT : PySem.W.makesIn K CT = true)
    (kp_CT : PySem.W.keepIn K (.ref CT) = true)
    (m_CT_many : PySem.W.findIn K (.ref CT) "many" = some (some (.ref f_CT_many)))
    (l_CT_many : K.lookup f_CT_many = some ⟨oc_CT_many, od_CT_many, .func (PySem.W.fnOf "many" "Tour.many" (defArgs s_Tour_many) (defBody s_Tour_many) (defScope s_Tour_many) .none kV_CT_many dc_CT_many pm_CT_many an_CT_many cd_CT_many ct_CT_many), sl_CT_many⟩)
    (c_CT_many : PySem.W.codeIn K cd_CT_many "Tour.many" = true)
    (k_CT_many : PySem.W.keepIn K (.ref f_CT_many) = true)
    (y_CT_many : PySem.W.isFn K (.ref f_CT_many) = true)
    (m_CT_need_make : PySem.W.findIn K (.ref CT) "_need_make" = some (some (.ref f_CT_need_make)))
    (l_CT_need_make : K.lookup f_CT_need_make = some ⟨oc_CT_need_make, od_CT_need_make, .func (PySem.W.fnOf "_need_make" "Tour._need_make" (defArgs s_Tour__need_make) (defBody s_Tour__need_make) (defScope s_Tour__need_make) .none kV_CT_need_make dc_CT_need_make pm_CT_need_make an_CT_need_make cd_CT_need_make ct_CT_need_make), sl_CT_need_make⟩)
    (c_CT_need_make : PySem.W.codeIn K cd_CT_need_make "Tour._need_make" = true)
    (k_CT_need_make : PySem.W.keepIn K (.ref f_CT_need_make) = true)
    (y_CT_need_make : PySem.W.isFn K (.ref f_CT_need_make) = true)
    (m_CT_grow : PySem.W.findIn K (.ref CT) "grow" = some (some (.ref f_CT_grow)))
    (l_CT_grow : K.lookup f_CT_grow = some ⟨oc_CT_grow, od_CT_grow, .func (PySem.W.fnOf "grow" "Tour.grow" (defArgs s_Tour_grow) (defBody s_Tour_grow) (defScope s_Tour_grow) .none kV_CT_grow dc_CT_grow pm_CT_grow an_CT_grow cd_CT_grow ct_CT_grow), sl_CT_grow⟩)
    (c_CT_grow : PySem.W.codeIn K cd_CT_grow "Tour.grow" = true)
    (k_CT_grow : PySem.W.keepIn K (.ref f_CT_grow) = true)
    (y_CT_grow : PySem.W.isFn K (.ref f_CT_grow) = true)
    (m_CT_marks_of : PySem.W.findIn K (.ref CT) "marks_of" = some (some (.ref f_CT_marks_of)))
    (l_CT_marks_of : K.lookup f_CT_marks_of = some ⟨oc_CT_marks_of, od_CT_marks_of, .func (PySem.W.fnOf "marks_of" "Tour.marks_of" (defArgs s_Tour_marks_of) (defBody s_Tour_marks_of) (defScope s_Tour_marks_of) .none kV_CT_marks_of dc_CT_marks_of pm_CT_marks_of an_CT_marks_of cd_CT_marks_of ct_CT_marks_of), sl_CT_marks_of⟩)
    (c_CT_marks_of : PySem.W.codeIn K cd_CT_marks_of "Tour.marks_of" = true)
    (k_CT_marks_of : PySem.W.keepIn K (.ref f_CT_marks_of) = true)
    (y_CT_marks_of : PySem.W.isFn K (.ref f_CT_marks_of) = true)
    (m_CT_order : PySem.W.findIn K (.ref CT) "order" = some (some (.ref f_CT_order)))
    (l_CT_order : K.lookup f_CT_order = some ⟨oc_CT_order, od_CT_order, .func (PySem.W.fnOf "order" "Tour.order" (defArgs s_Tour_order) (defBody s_Tour_order) (defScope s_Tour_order) .none kV_CT_order dc_CT_order pm_CT_order an_CT_order cd_CT_order ct_CT_order), sl_CT_order⟩)
    (c_CT_order : PySem.W.codeIn K cd_CT_order "Tour.order" = true)
    (k_CT_order : PySem.W.keepIn K (.ref f_CT_order) = true)
    (y_CT_order : PySem.W.isFn K (.ref f_CT_order) = true)
    (m_CT_makes_by : PySem.W.findIn K (.ref CT) "_makes_by" = some (some (.ref f_CT_makes_by)))
    (l_CT_makes_by : K.lookup f_CT_makes_by = some ⟨oc_CT_makes_by, od_CT_makes_by, .func (PySem.W.fnOf "_makes_by" "Tour._makes_by" (defArgs s_Tour__makes_by) (defBody s_Tour__makes_by) (defScope s_Tour__makes_by) .none kV_CT_makes_by dc_CT_makes_by pm_CT_makes_by an_CT_makes_by cd_CT_makes_by ct_CT_makes_by), sl_CT_makes_by⟩)
    (c_CT_makes_by : PySem.W.codeIn K cd_CT_makes_by "Tour._makes_by" = true)
    (k_CT_makes_by : PySem.W.keepIn K (.ref f_CT_makes_by) = true)
    (y_CT_makes_by : PySem.W.isFn K (.ref f_CT_makes_by) = true)
    (m_CT_coming : PySem.W.findIn K (.ref CT) "coming" = some (some (.ref f_CT_coming)))
    (l_CT_coming : K.lookup f_CT_coming = some ⟨oc_CT_coming, od_CT_coming, .func (PySem.W.fnOf "coming" "Tour.coming" (defArgs s_Tour_coming) (defBody s_Tour_coming) (defScope s_Tour_coming) .none kV_CT_coming dc_CT_coming pm_CT_coming an_CT_coming cd_CT_coming ct_CT_coming), sl_CT_coming⟩)
    (c_CT_coming : PySem.W.codeIn K cd_CT_coming "Tour.coming" = true)
    (k_CT_coming : PySem.W.keepIn K (.ref f_CT_coming) = true)
    (y_CT_coming : PySem.W.isFn K (.ref f_CT_coming) = true)
    (m_CT_leaving : PySem.W.findIn K (.ref CT) "leaving" = some (some (.ref f_CT_leaving)))
    (l_CT_leaving : K.lookup f_CT_leaving = some ⟨oc_CT_leaving, od_CT_leaving, .func (PySem.W.fnOf "leaving" "Tour.leaving" (defArgs s_Tour_leaving) (defBody s_Tour_leaving) (defScope s_Tour_leaving) .none kV_CT_leaving dc_CT_leaving pm_CT_leaving an_CT_leaving cd_CT_leaving ct_CT_leaving), sl_CT_leaving⟩)
    (c_CT_leaving : PySem.W.codeIn K cd_CT_leaving "Tour.leaving" = true)
    (k_CT_leaving : PySem.W.keepIn K (.ref f_CT_leaving) = true)
    (y_CT_leaving : PySem.W.isFn K (.ref f_CT_leaving) = true)
    (m_CT_copied : PySem.W.findIn K (.ref CT) "copied" = some (some (.ref f_CT_copied)))
    (l_CT_copied : K.lookup f_CT_copied = some ⟨oc_CT_copied, od_CT_copied, .func (PySem.W.fnOf "copied" "Tour.copied" (defArgs s_Tour_copied) (defBody s_Tour_copied) (defScope s_Tour_copied) .none kV_CT_copied dc_CT_copied pm_CT_copied an_CT_copied cd_CT_copied ct_CT_copied), sl_CT_copied⟩)
    (c_CT_copied : PySem.W.codeIn K cd_CT_copied "Tour.copied" = true)
    (k_CT_copied : PySem.W.keepIn K (.ref f_CT_copied) = true)
    (y_CT_copied : PySem.W.isFn K (.ref f_CT_copied) = true)
    (m_CT_init : PySem.W.findIn K (.ref CT) "__init__" = some (some (.ref f_CT_init)))
    (l_CT_init : K.lookup f_CT_init = some ⟨oc_CT_init, od_CT_init, .func (PySem.W.fnOf "__init__" "Tour.__init__" (defArgs s_Tour___init__) (defBody s_Tour___init__) (defScope s_Tour___init__) .none kV_CT_init dc_CT_init pm_CT_init an_CT_init cd_CT_init ct_CT_init), sl_CT_init⟩)
    (c_CT_init : PySem.W.codeIn K cd_CT_init "Tour.__init__" = true)
    (k_CT_init : PySem.W.keepIn K (.ref f_CT_init) = true)
    (y_CT_init : PySem.W.isFn K (.ref f_CT_init) = true)
    (q1O : PySem.W.findIn K (.ref CO) "__class__" = some (some (.builtin "object.__class__")))
    (q2O : PySem.W.specialIn K (.builtin "object.__class__") "__get__" = some (some (.builtin "getset_descriptor.__get__")))
    (q3O : PySem.W.takesIn K (.builtin "object.__class__") = some true)
    (q4O : PySem.W.mroIn K CO (.type "object") = some true)
    : ∃ fd : FuncData, (∀ (s : Shared) (v : Value), BindsTo s fd ⟨[v], []⟩ [("_law_script", v)]) ∧ ∀ base : Heap, K.In base → base.Ns mainGlobals mg → FnG l.prog w K mg base CX0 8 fa fd ["_law_script"] (spLaw K) := by
  have e := hfa.symm.trans (PySem.W.mg_of X G a9)
  cases e
  have d_is_whole : DefAt K mg "is_whole" s_is_whole ["thing", "low", "high"] := defAt (PySem.W.mg_of X G a0) l0 c0 k0 (fun _ _ _ _ _ _ us hl => match us, hl with | [_, _, _], _ => rfl)
  have d__law_cell_at : DefAt K mg "_law_cell_at" s__law_cell_at ["_law_script", "_law_k"] := defAt (PySem.W.mg_of X G a1) l1 c1 k1 (fun _ _ _ _ _ _ us hl => match us, hl with | [_, _], _ => rfl)
  have d__law_box : DefAt K mg "_law_box" s__law_box ["_law_cell"] := defAt (PySem.W.mg_of X G a2) l2 c2 k2 (fun _ _ _ _ _ _ us hl => match us, hl with | [_], _ => rfl)
  have d__law_take : DefAt K mg "_law_take" s__law_take ["_law_box_here", "_law_many"] := defAt (PySem.W.mg_of X G a3) l3 c3 k3 (fun _ _ _ _ _ _ us hl => match us, hl with | [_, _], _ => rfl)
  have d__law_end : DefAt K mg "_law_end" s__law_end ["_law_row", "_law_at"] := defAt (PySem.W.mg_of X G a4) l4 c4 k4 (fun _ _ _ _ _ _ us hl => match us, hl with | [_, _], _ => rfl)
  have d__law_lay : DefAt K mg "_law_lay" s__law_lay ["_law_model", "_law_mark"] := defAt (PySem.W.mg_of X G a5) l5 c5 k5 (fun _ _ _ _ _ _ us hl => match us, hl with | [_, _], _ => rfl)
  have d__law_one_of : DefAt K mg "_law_one_of" s__law_one_of ["_law_box_here", "_law_many"] := defAt (PySem.W.mg_of X G a6) l6 c6 k6 (fun _ _ _ _ _ _ us hl => match us, hl with | [_, _], _ => rfl)
  have d__law_lists_right : DefAt K mg "_law_lists_right" s__law_lists_right ["_law_tour", "_law_model"] := defAt (PySem.W.mg_of X G a7) l7 c7 k7 (fun _ _ _ _ _ _ us hl => match us, hl with | [_, _], _ => rfl)
  have d__law_right : DefAt K mg "_law_right" s__law_right ["_law_box_here", "_law_tour", "_law_model"] := defAt (PySem.W.mg_of X G a8) l8 c8 k8 (fun _ _ _ _ _ _ us hl => match us, hl with | [_, _, _], _ => rfl)
  have F_law := fun_mk (st := s_law) l9 c9 k9
  have cl_CO : Cls K CO := ⟨pg_CO, hd_CO, po_CO, sa_CO⟩
  have F_CO_many := fun_mk (st := s_Order_many) l_CO_many c_CO_many k_CO_many
  have B_CO_many : Binds K _ ["self"] [] := F_CO_many.binds (ps := ["self"]) (fun _ _ _ _ _ _ us hl => match us, hl with | [_], _ => rfl)
  have M_CO_many : MAt K CO "many" "Order.many" s_Order_many ["self"] := ⟨_, _, F_CO_many, ⟨m_CO_many, y_CO_many, k_CO_many⟩, B_CO_many⟩
  have F_CO_need_mark := fun_mk (st := s_Order__need_mark) l_CO_need_mark c_CO_need_mark k_CO_need_mark
  have B_CO_need_mark : Binds K _ ["self", "mark"] [] := F_CO_need_mark.binds (ps := ["self", "mark"]) (fun _ _ _ _ _ _ us hl => match us, hl with | [_, _], _ => rfl)
  have M_CO_need_mark : MAt K CO "_need_mark" "Order._need_mark" s_Order__need_mark ["self", "mark"] := ⟨_, _, F_CO_need_mark, ⟨m_CO_need_mark, y_CO_need_mark, k_CO_need_mark⟩, B_CO_need_mark⟩
  have F_CO_label := fun_mk (st := s_Order_label) l_CO_label c_CO_label k_CO_label
  have B_CO_label : Binds K _ ["self", "mark"] [] := F_CO_label.binds (ps := ["self", "mark"]) (fun _ _ _ _ _ _ us hl => match us, hl with | [_, _], _ => rfl)
  have M_CO_label : MAt K CO "label" "Order.label" s_Order_label ["self", "mark"] := ⟨_, _, F_CO_label, ⟨m_CO_label, y_CO_label, k_CO_label⟩, B_CO_label⟩
  have F_CO_label_at := fun_mk (st := s_Order__label_at) l_CO_label_at c_CO_label_at k_CO_label_at
  have B_CO_label_at : Binds K _ ["self", "at"] [] := F_CO_label_at.binds (ps := ["self", "at"]) (fun _ _ _ _ _ _ us hl => match us, hl with | [_, _], _ => rfl)
  have M_CO_label_at : MAt K CO "_label_at" "Order._label_at" s_Order__label_at ["self", "at"] := ⟨_, _, F_CO_label_at, ⟨m_CO_label_at, y_CO_label_at, k_CO_label_at⟩, B_CO_label_at⟩
  have F_CO_marks := fun_mk (st := s_Order_marks) l_CO_marks c_CO_marks k_CO_marks
  have B_CO_marks : Binds K _ ["self"] [] := F_CO_marks.binds (ps := ["self"]) (fun _ _ _ _ _ _ us hl => match us, hl with | [_], _ => rfl)
  have M_CO_marks : MAt K CO "marks" "Order.marks" s_Order_marks ["self"] := ⟨_, _, F_CO_marks, ⟨m_CO_marks, y_CO_marks, k_CO_marks⟩, B_CO_marks⟩
  have F_CO_anew := fun_mk (st := s_Order_anew) l_CO_anew c_CO_anew k_CO_anew
  have B_CO_anew : Binds K _ ["self"] [] := F_CO_anew.binds (ps := ["self"]) (fun _ _ _ _ _ _ us hl => match us, hl with | [_], _ => rfl)
  have M_CO_anew : MAt K CO "anew" "Order.anew" s_Order_anew ["self"] := ⟨_, _, F_CO_anew, ⟨m_CO_anew, y_CO_anew, k_CO_anew⟩, B_CO_anew⟩
  have F_CO_label_anew := fun_mk (st := s_Order__label_anew) l_CO_label_anew c_CO_label_anew k_CO_label_anew
  have B_CO_label_anew : Binds K _ ["self"] [] := F_CO_label_anew.binds (ps := ["self"]) (fun _ _ _ _ _ _ us hl => match us, hl with | [_], _ => rfl)
  have M_CO_label_anew : MAt K CO "_label_anew" "Order._label_anew" s_Order__label_anew ["self"] := ⟨_, _, F_CO_label_anew, ⟨m_CO_label_anew, y_CO_label_anew, k_CO_label_anew⟩, B_CO_label_anew⟩
  have F_CO_behind := fun_mk (st := s_Order_behind) l_CO_behind c_CO_behind k_CO_behind
  have B_CO_behind : Binds K _ ["self", "mark"] [] := F_CO_behind.binds (ps := ["self", "mark"]) (fun _ _ _ _ _ _ us hl => match us, hl with | [_, _], _ => rfl)
  have M_CO_behind : MAt K CO "behind" "Order.behind" s_Order_behind ["self", "mark"] := ⟨_, _, F_CO_behind, ⟨m_CO_behind, y_CO_behind, k_CO_behind⟩, B_CO_behind⟩
  have F_CO_copied := fun_mk (st := s_Order_copied) l_CO_copied c_CO_copied k_CO_copied
  have B_CO_copied : Binds K _ ["self"] [] := F_CO_copied.binds (ps := ["self"]) (fun _ _ _ _ _ _ us hl => match us, hl with | [_], _ => rfl)
  have M_CO_copied : MAt K CO "copied" "Order.copied" s_Order_copied ["self"] := ⟨_, _, F_CO_copied, ⟨m_CO_copied, y_CO_copied, k_CO_copied⟩, B_CO_copied⟩
  have F_CO_init := fun_mk (st := s_Order___init__) l_CO_init c_CO_init k_CO_init
  have B_CO_init : Binds K _ ["self"] [] := F_CO_init.binds (ps := ["self"]) (fun _ _ _ _ _ _ us hl => match us, hl with | [_], _ => rfl)
  have M_CO_init : MAt K CO "__init__" "Order.__init__" s_Order___init__ ["self"] := ⟨_, _, F_CO_init, ⟨m_CO_init, y_CO_init, k_CO_init⟩, B_CO_init⟩
  have cl_CT : Cls K CT := ⟨pg_CT, hd_CT, po_CT, sa_CT⟩
  have F_CT_many := fun_mk (st := s_Tour_many) l_CT_many c_CT_many k_CT_many
  have B_CT_many : Binds K _ ["self"] [] := F_CT_many.binds (ps := ["self"]) (fun _ _ _ _ _ _ us hl => match us, hl with | [_], _ => rfl)
  have M_CT_many : MAt K CT "many" "Tour.many" s_Tour_many ["self"] := ⟨_, _, F_CT_many, ⟨m_CT_many, y_CT_many, k_CT_many⟩, B_CT_many⟩
  have F_CT_need_make := fun_mk (st := s_Tour__need_make) l_CT_need_make c_CT_need_make k_CT_need_make
  have B_CT_need_make : Binds K _ ["self", "make"] [] := F_CT_need_make.binds (ps := ["self", "make"]) (fun _ _ _ _ _ _ us hl => match us, hl with | [_, _], _ => rfl)
  have M_CT_need_make : MAt K CT "_need_make" "Tour._need_make" s_Tour__need_make ["self", "make"] := ⟨_, _, F_CT_need_make, ⟨m_CT_need_make, y_CT_need_make, k_CT_need_make⟩, B_CT_need_make⟩
  have F_CT_grow := fun_mk (st := s_Tour_grow) l_CT_grow c_CT_grow k_CT_grow
  have B_CT_grow : Binds K _ ["self", "make"] [] := F_CT_grow.binds (ps := ["self", "make"]) (fun _ _ _ _ _ _ us hl => match us, hl with | [_, _], _ => rfl)
  have M_CT_grow : MAt K CT "grow" "Tour.grow" s_Tour_grow ["self", "make"] := ⟨_, _, F_CT_grow, ⟨m_CT_grow, y_CT_grow, k_CT_grow⟩, B_CT_grow⟩
  have F_CT_marks_of := fun_mk (st := s_Tour_marks_of) l_CT_marks_of c_CT_marks_of k_CT_marks_of
  have B_CT_marks_of : Binds K _ ["self", "make"] [] := F_CT_marks_of.binds (ps := ["self", "make"]) (fun _ _ _ _ _ _ us hl => match us, hl with | [_, _], _ => rfl)
  have M_CT_marks_of : MAt K CT "marks_of" "Tour.marks_of" s_Tour_marks_of ["self", "make"] := ⟨_, _, F_CT_marks_of, ⟨m_CT_marks_of, y_CT_marks_of, k_CT_marks_of⟩, B_CT_marks_of⟩
  have F_CT_order := fun_mk (st := s_Tour_order) l_CT_order c_CT_order k_CT_order
  have B_CT_order : Binds K _ ["self"] [] := F_CT_order.binds (ps := ["self"]) (fun _ _ _ _ _ _ us hl => match us, hl with | [_], _ => rfl)
  have M_CT_order : MAt K CT "order" "Tour.order" s_Tour_order ["self"] := ⟨_, _, F_CT_order, ⟨m_CT_order, y_CT_order, k_CT_order⟩, B_CT_order⟩
  have F_CT_makes_by := fun_mk (st := s_Tour__makes_by) l_CT_makes_by c_CT_makes_by k_CT_makes_by
  have B_CT_makes_by : Binds K _ ["self", "makes"] [] := F_CT_makes_by.binds (ps := ["self", "makes"]) (fun _ _ _ _ _ _ us hl => match us, hl with | [_, _], _ => rfl)
  have M_CT_makes_by : MAt K CT "_makes_by" "Tour._makes_by" s_Tour__makes_by ["self", "makes"] := ⟨_, _, F_CT_makes_by, ⟨m_CT_makes_by, y_CT_makes_by, k_CT_makes_by⟩, B_CT_makes_by⟩
  have F_CT_coming := fun_mk (st := s_Tour_coming) l_CT_coming c_CT_coming k_CT_coming
  have B_CT_coming : Binds K _ ["self"] [] := F_CT_coming.binds (ps := ["self"]) (fun _ _ _ _ _ _ us hl => match us, hl with | [_], _ => rfl)
  have M_CT_coming : MAt K CT "coming" "Tour.coming" s_Tour_coming ["self"] := ⟨_, _, F_CT_coming, ⟨m_CT_coming, y_CT_coming, k_CT_coming⟩, B_CT_coming⟩
  have F_CT_leaving := fun_mk (st := s_Tour_leaving) l_CT_leaving c_CT_leaving k_CT_leaving
  have B_CT_leaving : Binds K _ ["self"] [] := F_CT_leaving.binds (ps := ["self"]) (fun _ _ _ _ _ _ us hl => match us, hl with | [_], _ => rfl)
  have M_CT_leaving : MAt K CT "leaving" "Tour.leaving" s_Tour_leaving ["self"] := ⟨_, _, F_CT_leaving, ⟨m_CT_leaving, y_CT_leaving, k_CT_leaving⟩, B_CT_leaving⟩
  have F_CT_copied := fun_mk (st := s_Tour_copied) l_CT_copied c_CT_copied k_CT_copied
  have B_CT_copied : Binds K _ ["self"] [] := F_CT_copied.binds (ps := ["self"]) (fun _ _ _ _ _ _ us hl => match us, hl with | [_], _ => rfl)
  have M_CT_copied : MAt K CT "copied" "Tour.copied" s_Tour_copied ["self"] := ⟨_, _, F_CT_copied, ⟨m_CT_copied, y_CT_copied, k_CT_copied⟩, B_CT_copied⟩
  have F_CT_init := fun_mk (st := s_Tour___init__) l_CT_init c_CT_init k_CT_init
  have B_CT_init : Binds K _ ["self"] [] := F_CT_init.binds (ps := ["self"]) (fun _ _ _ _ _ _ us hl => match us, hl with | [_], _ => rfl)
  have M_CT_init : MAt K CT "__init__" "Tour.__init__" s_Tour___init__ ["self"] := ⟨_, _, F_CT_init, ⟨m_CT_init, y_CT_init, k_CT_init⟩, B_CT_init⟩
  refine ⟨PySem.W.fnOf "law" "law" (defArgs s_law) (defBody s_law) (defScope s_law) .none kV9 dc9 pm9 an9 cd9 ct9, fun s v => .of_eq rfl, fun base _ _ => ?_⟩
  have T : Txt K mg := ⟨PySem.W.mg_none_of X G z_len, PySem.W.mg_none_of X G z_max, PySem.W.mg_none_of X G z_min, PySem.W.mg_none_of X G z_range, PySem.W.mg_none_of X G z_repr, PySem.W.mg_none_of X G z_isinstance, PySem.W.mg_none_of X G z_enumerate, PySem.W.mg_none_of X G z_int, PySem.W.mg_none_of X G z_bool, PySem.W.mg_none_of X G z_list, PySem.W.mg_none_of X G z_dict, ⟨t_MOST_MARKS, PySem.W.mg_of X G i_MOST_MARKS⟩, ⟨t_LABELS, PySem.W.mg_of X G i_LABELS⟩, ⟨t_MOST_MAKES, PySem.W.mg_of X G i_MOST_MAKES⟩⟩
  have OC : OrdC K CO := ⟨cl_CO, no_CO__marks, no_CO__labels, no_CO__given, no_CO__times⟩
  have TC : TouC K CT := ⟨cl_CT, no_CT__order, no_CT__marks⟩
  have IO : IsO K CO := ⟨q1O, q2O, q3O, q4O, kit_self⟩
  have c_wh := ok_whI (P := l.prog) (w := w) (base := base) T d_is_whole
  have many := ok_many (P := l.prog) (w := w) (base := base) T OC M_CO_many
  have need := ok_need T OC c_wh M_CO_need_mark
  have label := ok_label T OC need M_CO_label
  have labat := ok_labat T OC many M_CO_label_at
  have marks := ok_marks (P := l.prog) (w := w) (base := base) T OC M_CO_marks
  have times := ok_times (P := l.prog) (w := w) (base := base) T OC M_CO_anew
  have anew := ok_anew T OC many M_CO_label_anew
  have behind := ok_behind T OC many need labat anew M_CO_behind
  have cO := PySem.W.mg_of X G a_CO
  have mkO : Mk K CO f_CO_init := ⟨mk_CO, m_CO_init, y_CO_init, kp_CO⟩
  have giO := fn_init (P := l.prog) (w := w) (base := base) T OC F_CO_init
  have copied := ok_copied T OC cO mkO B_CO_init giO M_CO_copied
  have tmany := ok_tmany (P := l.prog) (w := w) (base := base) (CO := CO) T TC M_CT_many
  have tneed := ok_tneed T TC c_wh tmany M_CT_need_make
  have mof := ok_mof T TC tneed M_CT_marks_of
  have grow := ok_grow T TC tneed tmany behind M_CT_grow
  have torder := ok_torder T TC copied M_CT_order
  have by_ := ok_by T TC marks M_CT_makes_by
  have coming := ok_coming T TC by_ M_CT_coming
  have leaving := ok_leaving T TC by_ M_CT_leaving
  have cT := PySem.W.mg_of X G a_CT
  have mkT : Mk K CT f_CT_init := ⟨mk_CT, m_CT_init, y_CT_init, kp_CT⟩
  have giT := fn_tinit T TC cO mkO B_CO_init giO behind F_CT_init
  have tcopied := ok_tcopied T TC cT mkT B_CT_init giT copied M_CT_copied
  have c_cell := ok_cell (P := l.prog) (w := w) (base := base) T d__law_cell_at
  have c_box := ok_box (P := l.prog) (w := w) (base := base) T d__law_box
  have c_take := ok_take (P := l.prog) (w := w) (base := base) T d__law_take
  have c_end := ok_end (P := l.prog) (w := w) (base := base) T d__law_end
  have c_lay := ok_lay T c_end d__law_lay
  have c_one := ok_oneof T c_take d__law_one_of
  have c_lr := ok_lr T OC IO cO torder coming leaving marks label times behind d__law_lists_right
  have c_right := ok_right T tmany mof c_take c_lr d__law_right
  exact ok_law T F_law cT mkT B_CT_init giT tcopied grow c_cell c_box c_take c_one c_lay c_right
end K16
open PySem PySem.W PyProof.Rows
set_option maxRecDepth 100000 in
set_option maxHeartbeats 0 in
theorem PySem.Challenge.cw_makeskept_k16_tours_by_coming_and_leavin_holds : PySem.Challenge.rw_makeskept_k16_tours_by_coming_and_leavin.Holds := by
  w_on; o_law; k_head; (case hw => w_witness2)
  k_fill
  refine Gd.walkG (l := PySem.Challenge.rw_makeskept_k16_tours_by_coming_and_leavin) (n := 63) (k := 8) (x := "_law_script") (CX := fun _ => L2.CX0) (sp := fun w => K16.spLaw _) rfl (by decide) rfl ⟨rfl, by decide, by decide⟩ (fun w h Y => PySem.W.kIn_of Y) ?F (fun _ _ a ns hl _ hS => ⟨a, ns, rfl, hS, hl, fun _ => rfl⟩) (fun _ _ _ _ _ h => h)
  case F =>
    intro w mg fa h KX G hmg
    refine' K16.all_mk KX G hmg ?a0 ?l0 ?c0 ?k0 ?a1 ?l1 ?c1 ?k1 ?a2 ?l2 ?c2 ?k2 ?a3 ?l3 ?c3 ?k3 ?a4 ?l4 ?c4 ?k4 ?a5 ?l5 ?c5 ?k5 ?a6 ?l6 ?c6 ?k6 ?a7 ?l7 ?c7 ?k7 ?a8 ?l8 ?c8 ?k8 ?a9 ?l9 ?c9 ?k9 ?z_len ?z_max ?z_min ?z_range ?z_repr ?z_isinstance ?z_enumerate ?z_int ?z_bool ?z_list ?z_dict ?i_MOST_MARKS ?i_LABELS ?i_MOST_MAKES ?a_CO ?pg_CO ?hd_CO ?po_CO ?sa_CO ?no_CO__marks ?no_CO__labels ?no_CO__given ?no_CO__times ?mk_CO ?kp_CO ?m_CO_many ?l_CO_many ?c_CO_many ?k_CO_many ?y_CO_many ?m_CO_need_mark ?l_CO_need_mark ?c_CO_need_mark ?k_CO_need_mark ?y_CO_need_mark ?m_CO_label ?l_CO_label ?c_CO_label ?k_CO_label ?y_CO_label ?m_CO_label_at ?l_CO_label_at ?c_CO_label_at ?k_CO_label_at ?y_CO_label_at ?m_CO_marks ?l_CO_marks ?c_CO_marks ?k_CO_marks ?y_CO_marks ?m_CO_anew ?l_CO_anew ?c_CO_anew ?k_CO_anew ?y_CO_anew ?m_CO_label_anew ?l_CO_label_anew ?c_CO_label_anew ?k_CO_label_anew ?y_CO_label_anew ?m_CO_behind ?l_CO_behind ?c_CO_behind ?k_CO_behind ?y_CO_behind ?m_CO_copied ?l_CO_copied ?c_CO_copied ?k_CO_copied ?y_CO_copied ?m_CO_init ?l_CO_init ?c_CO_init ?k_CO_init ?y_CO_init ?a_CT ?pg_CT ?hd_CT ?po_CT ?sa_CT ?no_CT__order ?no_CT__marks ?mk_CT ?kp_CT ?m_CT_many ?l_CT_many ?c_CT_many ?k_CT_many ?y_CT_many ?m_CT_need_make ?l_CT_need_make ?c_CT_need_make ?k_CT_need_make ?y_CT_need_make ?m_CT_grow ?l_CT_grow ?c_CT_grow ?k_CT_grow ?y_CT_grow ?m_CT_marks_of ?l_CT_marks_of ?c_CT_marks_of ?k_CT_marks_of ?y_CT_marks_of ?m_CT_order ?l_CT_order ?c_CT_order ?k_CT_order ?y_CT_order ?m_CT_makes_by ?l_CT_makes_by ?c_CT_makes_by ?k_CT_makes_by ?y_CT_makes_by ?m_CT_coming ?l_CT_coming ?c_CT_coming ?k_CT_coming ?y_CT_coming ?m_CT_leaving ?l_CT_leaving ?c_CT_leaving ?k_CT_leaving ?y_CT_leaving ?m_CT_copied ?l_CT_copied ?c_CT_copied ?k_CT_copied ?y_CT_copied ?m_CT_init ?l_CT_init ?c_CT_init ?k_CT_init ?y_CT_init ?q1O ?q2O ?q3O ?q4O
    (case a0 => k_is)
    (case l0 => k_is)
    (case c0 => k_is)
    (case k0 => k_is)
    (case a1 => k_is)
    (case l1 => k_is)
    (case c1 => k_is)
    (case k1 => k_is)
    (case a2 => k_is)
    (case l2 => k_is)
    (case c2 => k_is)
    (case k2 => k_is)
    (case a3 => k_is)
    (case l3 => k_is)
    (case c3 => k_is)
    (case k3 => k_is)
    (case a4 => k_is)
    (case l4 => k_is)
    (case c4 => k_is)
    (case k4 => k_is)
    (case a5 => k_is)
    (case l5 => k_is)
    (case c5 => k_is)
    (case k5 => k_is)
    (case a6 => k_is)
    (case l6 => k_is)
    (case c6 => k_is)
    (case k6 => k_is)
    (case a7 => k_is)
    (case l7 => k_is)
    (case c7 => k_is)
    (case k7 => k_is)
    (case a8 => k_is)
    (case l8 => k_is)
    (case c8 => k_is)
    (case k8 => k_is)
    (case a9 => k_is)
    (case l9 => k_is)
    (case c9 => k_is)
    (case k9 => k_is)
    (case z_len => k_is)
    (case z_max => k_is)
    (case z_min => k_is)
    (case z_range => k_is)
    (case z_repr => k_is)
    (case z_isinstance => k_is)
    (case z_enumerate => k_is)
    (case z_int => k_is)
    (case z_bool => k_is)
    (case z_list => k_is)
    (case z_dict => k_is)
    (case i_MOST_MARKS => k_is)
    (case i_LABELS => k_is)
    (case i_MOST_MAKES => k_is)
    (case a_CO => k_is)
    (case pg_CO => k_is)
    (case hd_CO => k_is)
    (case po_CO => k_is)
    (case sa_CO => k_is)
    (case no_CO__marks => k_is)
    (case no_CO__labels => k_is)
    (case no_CO__given => k_is)
    (case no_CO__times => k_is)
    (case mk_CO => k_is)
    (case kp_CO => k_is)
    (case m_CO_many => k_is)
    (case l_CO_many => k_is)
    (case c_CO_many => k_is)
    (case k_CO_many => k_is)
    (case y_CO_many => k_is)
    (case m_CO_need_mark => k_is)
    (case l_CO_need_mark => k_is)
    (case c_CO_need_mark => k_is)
    (case k_CO_need_mark => k_is)
    (case y_CO_need_mark => k_is)
    (case m_CO_label => k_is)
    (case l_CO_label => k_is)
    (case c_CO_label => k_is)
    (case k_CO_label => k_is)
    (case y_CO_label => k_is)
    (case m_CO_label_at => k_is)
    (case l_CO_label_at => k_is)
    (case c_CO_label_at => k_is)
    (case k_CO_label_at => k_is)
    (case y_CO_label_at => k_is)
    (case m_CO_marks => k_is)
    (case l_CO_marks => k_is)
    (case c_CO_marks => k_is)
    (case k_CO_marks => k_is)
    (case y_CO_marks => k_is)
    (case m_CO_anew => k_is)
    (case l_CO_anew => k_is)
    (case c_CO_anew => k_is)
    (case k_CO_anew => k_is)
    (case y_CO_anew => k_is)
    (case m_CO_label_anew => k_is)
    (case l_CO_label_anew => k_is)
    (case c_CO_label_anew => k_is)
    (case k_CO_label_anew => k_is)
    (case y_CO_label_anew => k_is)
    (case m_CO_behind => k_is)
    (case l_CO_behind => k_is)
    (case c_CO_behind => k_is)
    (case k_CO_behind => k_is)
    (case y_CO_behind => k_is)
    (case m_CO_copied => k_is)
    (case l_CO_copied => k_is)
    (case c_CO_copied => k_is)
    (case k_CO_copied => k_is)
    (case y_CO_copied => k_is)
    (case m_CO_init => k_is)
    (case l_CO_init => k_is)
    (case c_CO_init => k_is)
    (case k_CO_init => k_is)
    (case y_CO_init => k_is)
    (case a_CT => k_is)
    (case pg_CT => k_is)
    (case hd_CT => k_is)
    (case po_CT => k_is)
    (case sa_CT => k_is)
    (case no_CT__order => k_is)
    (case no_CT__marks => k_is)
    (case mk_CT => k_is)
    (case kp_CT => k_is)
    (case m_CT_many => k_is)
    (case l_CT_many => k_is)
    (case c_CT_many => k_is)
    (case k_CT_many => k_is)
    (case y_CT_many => k_is)
    (case m_CT_need_make => k_is)
    (case l_CT_need_make => k_is)
    (case c_CT_need_make => k_is)
    (case k_CT_need_make => k_is)
    (case y_CT_need_make => k_is)
    (case m_CT_grow => k_is)
    (case l_CT_grow => k_is)
    (case c_CT_grow => k_is)
    (case k_CT_grow => k_is)
    (case y_CT_grow => k_is)
    (case m_CT_marks_of => k_is)
    (case l_CT_marks_of => k_is)
    (case c_CT_marks_of => k_is)
    (case k_CT_marks_of => k_is)
    (case y_CT_marks_of => k_is)
    (case m_CT_order => k_is)
    (case l_CT_order => k_is)
    (case c_CT_order => k_is)
    (case k_CT_order => k_is)
    (case y_CT_order => k_is)
    (case m_CT_makes_by => k_is)
    (case l_CT_makes_by => k_is)
    (case c_CT_makes_by => k_is)
    (case k_CT_makes_by => k_is)
    (case y_CT_makes_by => k_is)
    (case m_CT_coming => k_is)
    (case l_CT_coming => k_is)
    (case c_CT_coming => k_is)
    (case k_CT_coming => k_is)
    (case y_CT_coming => k_is)
    (case m_CT_leaving => k_is)
    (case l_CT_leaving => k_is)
    (case c_CT_leaving => k_is)
    (case k_CT_leaving => k_is)
    (case y_CT_leaving => k_is)
    (case m_CT_copied => k_is)
    (case l_CT_copied => k_is)
    (case c_CT_copied => k_is)
    (case k_CT_copied => k_is)
    (case y_CT_copied => k_is)
    (case m_CT_init => k_is)
    (case l_CT_init => k_is)
    (case c_CT_init => k_is)
    (case k_CT_init => k_is)
    (case y_CT_init => k_is)
    (case q1O => k_is)
    (case q2O => k_is)
    (case q3O => k_is)
    (case q4O => k_is)

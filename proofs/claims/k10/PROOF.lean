import PyProof.Rows.All
import Wide.All
import OpenK.AllK
import Wide.FinOn
import HandS.ForMost
import HandS.IsInst
import HandS.TupLe
import PyProof.ReprLen
import KE.KExcLine
import HandS.Exc
import HandS.ExcOwn
import HandS.WordsExc
import KE.KExcIs
import HandS.TryOnly
import HandS.Nested
import KE.KSuper
import HandS.Codes
import HandS.Style
import HandS.Walk
import HandS.TryMany
import HandS.RevRange
import HandS.WideBits
import HandS.Conv
import KE.RegKSuper
import PySem.Challenge.RW_makeskept_k10_trees_refused
set_option Elab.async false
set_option linter.all false
set_option maxRecDepth 100000
set_option maxHeartbeats 4000000
/-! A promise of a def that is kept where nothing is being shown (no repr under way), and repr of data under it. -/
namespace Gd
open PySem PySem.Spec PyProof.Rows L2

/-- as FnOk, asked only where no repr is under way -/
structure FnG (P : Program) (w : World) (K : PySem.W.Frag) (mg : Str → Option Value) (base : Heap)
    (CX : CXT) (k : Nat) (f : Addr) (fd : FuncData) (ps : List Str) (sp : Sp) : Prop where
  arity : ∀ vs H Q E, sp vs H Q E → vs.length = ps.length
  go : ∀ (A : Around) (outer : List Env) (s : Shared) (H : Hp) (args : Args) (us : List Value) (vs : List V)
    (Q : VK) (E : XK), A.guards = some [] → Room k A → Env0 P w K mg base A outer s H →
    BindsTo s fd args (ps.zip us) → Vals vs us → sp vs H Q E →
    codeAny (model P w) A (.call (.ref f) args) (CR CX outer P w H s Q E) s

section
variable {P : Program} {w : World} {K : PySem.W.Frag} {mg : Str → Option Value} {base : Heap}
theorem FnG.low {CX : CXT} {j k : Nat} {f : Addr} {fd : FuncData} {ps : List Str} {sp : Sp}
    (F : FnG P w K mg base CX j f fd ps sp) (h : j ≤ k) : FnG P w K mg base CX k f fd ps sp :=
  ⟨F.arity, fun A o s H ar us vs Q E g r => F.go A o s H ar us vs Q E g (r.mono h)⟩
theorem FnG.ofOk {CX : CXT} {k : Nat} {f : Addr} {fd : FuncData} {ps : List Str} {sp : Sp}
    (F : FnOk P w K mg base CX k f fd ps sp) : FnG P w K mg base CX k f fd ps sp :=
  ⟨F.len, fun A o s H ar us vs Q E _ r => F.run A o s H ar us vs Q E r⟩

/-- the rule for a def, told that no repr is under way -/
theorem fnG_of {CX : CXT} {k : Nat} {f : Addr} {name qual : Str} {params : Arguments} {body : List Stmt}
    {scope : Scope} {dV kV doc pm cdv ct oc : Value} {an od : Option Addr} {osl : Array (Option Value)}
    {N ps : List Str} {sp : Sp}
    (lk : K.lookup f = some ⟨oc, od, .func (PySem.W.fnOf name qual params body scope dV kV doc pm an cdv ct), osl⟩)
    (cin : PySem.W.codeIn K cdv qual = true) (S : FnScope N ps scope)
    (ar : ∀ vs H Q E, sp vs H Q E → vs.length = ps.length)
    (bd : ∀ (A : Around) (outer : List Env) (s : Shared) (H : Hp) (vs : List V) (Q : VK) (E : XK),
      A.guards = some [] → Room k (A.deeper (envOfC qual scope s.heap.objs.size f cdv)) → sp vs H Q E →
      ∃ t, PSs (cxOf CX P w K mg base N qual scope f cdv A outer s H E) body t ∧
        t { nx := fun _ H' => Q .non H', rt := Q } (start N vs) H) :
    FnG P w K mg base CX (k + 1) f (PySem.W.fnOf name qual params body scope dV kV doc pm an cdv ct) ps sp := by
  constructor
  · exact ar
  intro A outer s H args us vs Q E hG room env bind rel prem
  have long := ar _ _ _ _ prem
  have kin : K.In s.heap := env.mod.kin.keeps fun b o z => (env.bs b o z).1
  have nl : s.heap.NoLimit := env.mod.nolimit.keeps fun b o z => (env.bs b o z).1
  have kinds : ∀ y ∈ ps.zip us, scope.names.lookup y.1 = some .local ∨
      (scope.names.lookup y.1 = some .cell ∧
        ((cellsFrom (s.heap.objs.size + 1) scope.names []).lookup y.1).isSome = true) := by
    rintro ⟨n, v⟩ hy
    cases S.par n (List.of_mem_zip hy).1 with
    | inl q => exact .inl q
    | inr q => exact .inr ⟨q, PySem.W.cellsFrom_some _ _ _ (.inl q)⟩
  apply codeAny_call_function room.depth (kin _ _ lk) rfl S.co S.gen rfl (PySem.W.codeRec_of kin cin)
  apply bind
  apply wpAny_newFunctionEnv_cells S.kind kinds
  intro en hen s1 x
  subst hen
  refine ⟨nl.keeps x.toInCall.keep, ?_⟩
  apply codeAny_func
  obtain ⟨t, der, rd⟩ := bd A outer s H vs Q E hG (room.deeper _) prem
  have J := inv_start (CX := CX) (E := E) (mg := mg) S room.hd env long rel x
  apply wpAny_mono (der.run [] s1 (start N vs) H _ J rd)
  · intro fl s' hs
    cases fl with
    | ret u =>
      obtain ⟨v, _, H', J', rv, q⟩ := hs
      exact ⟨v, H', J'.os, J'.bare, J'.base, J'.hok, rv, q⟩
    | next =>
      obtain ⟨_, H', J', q⟩ := hs
      exact ⟨.non, H', J'.os, J'.bare, J'.base, J'.hok, rfl, q⟩
    | brk =>
      obtain ⟨_, _, _, q⟩ := hs
      exact q.elim
    | cont =>
      obtain ⟨_, _, _, q⟩ := hs
      exact q.elim
  · intro e s' hs
    exact hs
theorem okG {x qual : Str} {st : Stmt} {f : Addr} {fd : FuncData} {N ps : List Str} {k : Nat} {sp : Sp}
    (F : Fun K x qual st f fd) (S : FnScope N ps (defScope st))
    (ar : ∀ vs H Q E, sp vs H Q E → vs.length = ps.length)
    (bd : ∀ (cdv : Value) (A : Around) (outer : List Env) (s : Shared) (H : Hp) (vs : List V) (Q : VK) (E : XK),
      A.guards = some [] → Room k (A.deeper (envOfC qual (defScope st) s.heap.objs.size f cdv)) → sp vs H Q E →
      ∃ t, PSs (cxOf CX0 P w K mg base N qual (defScope st) f cdv A outer s H E).nox (defBody st) t ∧
        t { nx := fun _ H' => Q .non H', rt := Q } (start N vs) H) :
    FnG P w K mg base CX0 (k + 1) f fd ps sp := by
  obtain ⟨oc, od, kV, doc, pm, an, cdv, ct, osl, rfl, lk, cin⟩ := F.ex
  apply fnG_of lk cin S ar
  intro A outer s H vs Q E hG room prem
  obtain ⟨t, der, rd⟩ := bd cdv A outer s H vs Q E hG room prem
  exact ⟨t, der.nox, rd⟩
end

section
variable {X : Cx} {CX : CXT} {k : Nat} {f : Addr} {fd : FuncData} {ps : List Str} {sp : Sp} {dvs : List V}
  {ds : List Value} {E : XK} {x : Str} {p pos : Pos} {e : Expr} {es : List Expr} {t : TA}
theorem enterG {pins : List (Addr × Obj)} {σ : L2.St} {H : Hp} {s : Shared} {Q : VK} {us : List Value} {vs : List V}
    (F : FnG X.prog X.w X.K X.mg X.base CX k f fd ps sp) (hG : X.A.guards = some []) (hr : Room k X.A)
    (hb : Binds X.K fd ps ds) (hd : Vals dvs ds) (hx : Passes CX X E) (J : Inv X pins σ H s) (rel : Vals vs us)
    (prem : sp (vs ++ dvs) H Q E) :
    wpAny (model X.prog X.w) X.A (call (.ref f) us) (EP X pins σ Q) X.xe s := by
  have rel2 : Vals (vs ++ dvs) (us ++ ds) := rel.append hd
  have long : (us ++ ds).length = ps.length := rel2.length ▸ F.arity _ _ _ _ prem
  apply wpAny_call
  apply codeAny_mono (F.go X.A X.stack s H ⟨us, []⟩ (us ++ ds) (vs ++ dvs) Q E hG hr J.env0 (hb s us J.kIn long)
    rel2 prem)
  intro r s' hq
  match r, hq with
  | .error _, hq => exact hx pins σ H s _ s' J hq
  | .ok (.ret _), hq => exact J.after hq
  | .ok .next, hq => exact hq.elim
  | .ok .brk, hq => exact hq.elim
  | .ok .cont, hq => exact hq.elim
/-- f(e, ..) of a def that keeps its promise where no repr is under way -/
theorem pe_callG (F : FnG X.prog X.w X.K X.mg X.base CX k f fd ps sp) (hG : X.A.guards = some []) (hr : Room k X.A)
    (hg : Gl X x) (hm : X.mg x = some (.ref f)) (hk : PySem.W.keepIn X.K (.ref f) = true) (hb : Binds X.K fd ps ds)
    (hd : Vals dvs ds) (hx : Passes CX X E) (ha : PA X (e :: es) t)
    (hdb : (x == ("__debug__" : Str)) = false := by decide)
    (he : starEach (e :: es) X.env = (false, eval e X.env) :: starEach es X.env := by rfl)
    (hpl : (backTo pos (starEach es X.env)).any (·.1) = false := by rfl) :
    PE X (.Call (.Name x p) (e :: es) [] pos) (tCall sp dvs E t) := by
  constructor
  intro pins s σ H Q J prem
  have arg := ha.run pos pins s σ H _ J prem
  apply wpAny_Call_Name_kw
  apply ld_glob J hg hm (hd := hdb)
  apply PySem.W.callWith_K (h₀ := X.base) J.ok.mod.kin hk (he := he) (hplain := hpl)
  apply thn arg
  rintro us s1 ⟨vs, H1, J1, rel, q⟩
  exact ⟨J1.kIn, enterG F hG hr hb hd hx J1 rel q⟩
end
end Gd
namespace Gd
open PySem PySem.Spec PyProof.Rows L2
section
variable {P : Program} {w : World} {K : PySem.W.Frag} {mg mb : Str → Option Value} {CX : CXT} {k : Nat} {fa a : Addr}
  {fd : FuncData} {x : Str} {sp : Sp} {s₁ : Shared} {vs : List Value} {ns : List Int}
/-- the law's call from one abstract heap that tracks at most the script -/
theorem callOne (kin : K.In s₁.heap) (gl : s₁.heap.Ns mainGlobals mg) (bl : s₁.heap.Ns builtinsNs mb)
    (bb : ∀ x : Str, x ≠ "__name__" → mb x = bootBuiltins x) (nl : s₁.heap.NoLimit) (gn : s₁.gens = #[])
    (at_ : s₁.heap.get? a = some { cls := .type "list", data := .seq vs.toArray }) (room : Room k callerA)
    (F : ∀ base : Heap, K.In base → base.Ns mainGlobals mg → FnG P w K mg base CX k fa fd [x] sp)
    (bind : ∀ (s : Shared) (u : Value), BindsTo s fd ⟨[u], []⟩ [(x, u)])
    (H : Hp) (only : Only H) (prem : sp [.ref a] H (fun v _ => v = .bl true) fun _ _ _ => False)
    (noX : ∀ e s', CX [] H s₁ (fun _ _ _ => False) e s' → False)
    (hok : HOk P w H s₁.heap) (here : ∀ b, H b ≠ none → b = a) (out : H a ≠ none → K.lookup a = none) :
    codeAny (model P w) callerA (.call (.ref fa) ⟨[.ref a], []⟩)
      (fun r s' => r = .ok (.ret (.bool true)) ∧ OldK s₁.heap s'.heap ∧ s'.os = s₁.os ∧ AllBare s'.gens) s₁ := by
  have free : ∀ {b : Addr} {o : Obj} {es : Array DictEntry} {ep : Nat},
      s₁.heap.get? b = some o → o.data = .dict es ep → H b = none := by
    intro b o es ep z dd
    refine Classical.byContradiction fun q => ?_
    have hb := here b q
    rw [hb, at_] at z
    injection z with z
    rw [← z] at dd
    injection dd
  have nsOf : ∀ {b : Addr} {m : Str → Option Value}, s₁.heap.Ns b m → (hidT s₁.heap H).Ns b m := by
    rintro b m ⟨o, es, ep, z, dd, r⟩
    exact ⟨o, es, ep, hidT_get z (free z dd), dd, r⟩
  have kinB : K.In (hidT s₁.heap H) := by
    intro b o z
    refine hidT_get (kin b o z) (Classical.byContradiction fun q => ?_)
    have hb := here b q
    rw [hb] at z q
    rw [out q] at z
    injection z
  have modB : Mod K mg (hidT s₁.heap H) := by
    obtain ⟨mc, l1, l2⟩ := nl
    exact ⟨kinB, nsOf gl, ⟨mb, nsOf bl, bb⟩, ⟨mc, nsOf l1, l2⟩⟩
  have env : Env0 P w K mg (hidT s₁.heap H) callerA [] s₁ H := by
    refine ⟨rfl, modB, fun b o z => of_hidT z, Nat.le_of_eq (hidT_size _ _), trivial, ?_, hok, .of_eq gn⟩
    intro b hb
    exact absurd (show b ∈ ([] : List Addr) from hb) List.not_mem_nil
  have ran := (F _ kinB (nsOf gl)).go callerA [] s₁ H ⟨[.ref a], []⟩ [.ref a] [.ref a] _ _ rfl room env
    (bind s₁ (.ref a)) (.cons rfl .nil) prem
  apply codeAny_mono ran
  intro r s' q
  match r, q with
  | .error _, q => exact (noX _ _ q).elim
  | .ok .next, q => exact q.elim
  | .ok .brk, q => exact q.elim
  | .ok .cont, q => exact q.elim
  | .ok (.ret u), q =>
    obtain ⟨v, H', os, bare, un, hok', rv, ev⟩ := q
    have ev' : v = .bl true := ev
    subst ev'
    have hu : u = Value.bool true := rv
    subst hu
    refine ⟨rfl, ?_, os, bare⟩
    apply OldK.of_keep
    intro b o z
    have nob : b ∉ ([] : List Addr) := List.not_mem_nil
    cases q : H b with
    | none => exact un.keep b o z q nob nob
    | some u =>
      cases only b with
      | inl z0 =>
        rw [q] at z0
        injection z0
      | inr z0 =>
        obtain ⟨ob, xs, z1⟩ := z0
        have y1 := (hok b _ z1).1
        have y2 := (hok' b _ (un.frzs b ob _ z1)).1
        rw [z] at y1
        injection y1 with y1
        rw [y1]
        exact y2
theorem callG (kin : K.In s₁.heap) (gl : s₁.heap.Ns mainGlobals mg) (bl : s₁.heap.Ns builtinsNs mb)
    (bb : ∀ x : Str, x ≠ "__name__" → mb x = bootBuiltins x) (nl : s₁.heap.NoLimit) (gn : s₁.gens = #[])
    (at_ : s₁.heap.get? a = some { cls := .type "list", data := .seq vs.toArray }) (hin : IntsAre vs ns)
    (short : ns.length ≤ sizeLine) (room : Room k callerA)
    (F : ∀ base : Heap, K.In base → base.Ns mainGlobals mg → FnG P w K mg base CX k fa fd [x] sp)
    (bind : ∀ (s : Shared) (u : Value), BindsTo s fd ⟨[u], []⟩ [(x, u)])
    (prem : ∀ H : Hp, Only H → SqL K H a (ns.map V.int) → sp [.ref a] H (fun v _ => v = .bl true) fun _ _ _ => False)
    (noX : ∀ H e s', CX [] H s₁ (fun _ _ _ => False) e s' → False) :
    codeAny (model P w) callerA (.call (.ref fa) ⟨[.ref a], []⟩)
      (fun r s' => r = .ok (.ret (.bool true)) ∧ OldK s₁.heap s'.heap ∧ s'.os = s₁.os ∧ AllBare s'.gens) s₁ := by
  have rv := vals_ints hin
  have lens := hin.length
  cases hk : K.lookup a with
  | some o =>
    have z := kin a o hk
    rw [at_] at z
    injection z with z
    subst z
    have only : Only (fun _ => none) := fun _ => .inl rfl
    refine callOne kin gl bl bb nl gn at_ room F bind (fun _ => none) only (prem _ only ?_) (noX _)
      (fun b u z => ?_) (fun b z => absurd rfl z) fun z => absurd rfl z
    · refine .inr ⟨_, vs.toArray, _, hk, rfl, rfl, rfl, ?_, ?_⟩
      · rw [List.size_toArray, lens]
        exact short
      · simpa using rv
    · have z' : (none : Option HO) = some u := z
      injection z'
  | none =>
    let T : HO := .frz { cls := .type "list", data := .seq vs.toArray } (.lst (ns.map V.int))
    have only : Only (fun b => if b = a then some T else none) := fun b => by
      by_cases hb : b = a
      · exact .inr ⟨_, _, if_pos hb⟩
      · exact .inl (if_neg hb)
    refine callOne kin gl bl bb nl gn at_ room F bind (fun b => if b = a then some T else none) only
      (prem _ only (.inl (.inr ⟨{ cls := .type "list", data := .seq vs.toArray }, if_pos rfl⟩))) (noX _)
      (fun b u z => ?_) (fun b z => ?_) fun _ => hk
    · by_cases hb : b = a
      · have z' : some T = some u := (if_pos hb).symm.trans z
        injection z' with z'
        subst z'
        subst hb
        refine ⟨at_, ?_, vs, _, rv, at_⟩
        rw [List.length_map]
        exact short
      · have z' : (none : Option HO) = some u := (if_neg hb).symm.trans z
        injection z'
    · refine Classical.byContradiction fun hb => z (if_neg hb)
end
/-- the goal that k_head leaves, from the law's promise under FnG -/
theorem walkG {l : PySem.W.OpenLaw} {n k : Nat} {q : Program} {loose : List Str} {XP : (Str → Option Value) → Heap → Prop}
    {YP : World → Heap → Prop} {d : DefRec} {K : Params → PySem.W.Frag} {CX : World → CXT} {sp : World → Sp} {x : Str}
    (most : l.most = some n) (line : n ≤ sizeLine) (nod : d.params.defaults = []) (room : Room k callerA)
    (kin : ∀ (w : World) (h : Heap), YP w h → (K w.params).In h)
    (F : ∀ (w : World) (mg : Str → Option Value) (fa : Addr) (h : Heap),
      (K w.params).In h → h.Ns mainGlobals mg → mg d.name = some (.ref fa) →
      ∃ fd : FuncData, (∀ (s : Shared) (u : Value), BindsTo s fd ⟨[u], []⟩ [(x, u)]) ∧
        ∀ base : Heap, (K w.params).In base → base.Ns mainGlobals mg →
          FnG l.prog w (K w.params) mg base (CX w) k fa fd [x] (sp w))
    (prem : ∀ (w : World) (H : Hp) (a : Addr) (ns : List Int), ns.length ≤ n → Only H →
      SqL (K w.params) H a (ns.map V.int) → sp w [.ref a] H (fun v _ => v = .bl true) fun _ _ _ => False)
    (noX : ∀ (w : World) (H : Hp) (s : Shared) (e : Value) (s' : Shared),
      CX w [] H s (fun _ _ _ => False) e s' → False) :
    PySem.W.WalkO q loose XP YP l.row.toRowW d [] (fun f vs => PySem.call f vs) := by
  apply Att.attach_call most nod
  intro w s₀ s₁ mg mb fa o pm cd doc a vs ns G Y ho hd hcd hmg hobj hints hlen hg
  have kx := kin w _ Y
  obtain ⟨fd, hb, hF⟩ := F w mg fa _ kx G.T.g hmg
  refine callG kx G.T.g G.T.b G.T.builtins G.T.nolimit hg hobj hints (Nat.le_trans hlen line) room hF hb ?_ ?_
  · intro H hO hS
    exact prem w H a ns hlen hO hS
  · intro H e s'
    exact noX w H s₁ e s'
end Gd
namespace Gd
open PySem PySem.Spec PyProof.Rows L2
/-- plain data, or an empty dict -/
inductive D1 (K : PySem.W.Frag) (H : Hp) : V → PyData → Prop
  | dp {v : V} {d : PyData} (h : Dp K H v d) : D1 K H v d
  | emp {a : Addr} (h : H a = some (.dK [])) : D1 K H (.ref a) (.dict [])
inductive D1s (K : PySem.W.Frag) (H : Hp) : List V → List PyData → Prop
  | nil : D1s K H [] []
  | cons {v : V} {vs : List V} {d : PyData} {ds : List PyData} : D1 K H v d → D1s K H vs ds → D1s K H (v :: vs) (d :: ds)
/-- such, or a list or a tuple of such -/
inductive D2 (K : PySem.W.Frag) (H : Hp) : V → PyData → Prop
  | d1 {v : V} {d : PyData} (h : D1 K H v d) : D2 K H v d
  | lst {a : Addr} {xs : List V} {ds : List PyData} : SqL K H a xs → D1s K H xs ds → D2 K H (.ref a) (.list ds)
  | tup {a : Addr} {xs : List V} {ds : List PyData} : SqT K H a xs → D1s K H xs ds → D2 K H (.ref a) (.tuple ds)

mutual
theorem noDict {K : PySem.W.Frag} {H : Hp} : ∀ {v : V} {d : PyData}, Dp K H v d → d.hasDict = false
  | _, _, .non => by simp only [PyData.hasDict]
  | _, _, .bl _ => by simp only [PyData.hasDict]
  | _, _, .int _ => by simp only [PyData.hasDict]
  | _, _, .str _ => by simp only [PyData.hasDict]
  | _, _, .lst _ ha => by
    simp only [PyData.hasDict]
    exact noDicts ha
  | _, _, .tup _ ha => by
    simp only [PyData.hasDict]
    exact noDicts ha
theorem noDicts {K : PySem.W.Frag} {H : Hp} : ∀ {vs : List V} {ds : List PyData}, DpAll K H vs ds → PyData.hasDictAll ds = false
  | _, _, .nil => by simp only [PyData.hasDictAll]
  | _, _, .cons h1 h2 => by simp only [PyData.hasDictAll, noDict h1, noDicts h2, Bool.or_self]
end

section
variable {X : Cx} {pins : List (Addr × Obj)} {σ : L2.St} {H : Hp} {s : Shared}
theorem D1.rd (I : Inv X pins σ H s) {v : V} {d : PyData} {u : Value} (h : D1 X.K H v d) (r : RelV v u) :
    ∃ as, Reads s.heap u d as ∧ (d.hasDict = true → sysModules ∉ as) := by
  cases h with
  | dp h =>
    obtain ⟨as, q⟩ := Dp.reads I d v u h r
    exact ⟨as, q, PyData.noDict_hsm (noDict h)⟩
  | @emp a h =>
    cases (show u = Value.ref a from r)
    obtain ⟨_, hs, vs, kv, o, es, ep, q⟩ := (show ObjOk X.prog X.w H s.heap a (.dK []) from I.hok a _ h)
    cases kv
    obtain ⟨e1, e2, e3, e4⟩ := q
    have e5 : es.toList = [] := by
      have e6 := e4.2.1
      generalize es.toList = l at e6 ⊢
      cases e6
      rfl
    refine ⟨_, Reads.dict (kvs := []) (as := []) (bs := []) e1 e2.1 e3 ?_ ?_, fun _ => ?_⟩
    · rw [e5]
      exact .nil
    · rw [e5]
      exact .nil
    · intro z
      have z' : sysModules = a := by simpa using z
      rw [← z'] at hs
      simp at hs
theorem D1s.rd (I : Inv X pins σ H s) : ∀ {vs : List V} {ds : List PyData} {us : List Value}, D1s X.K H vs ds → Vals vs us →
    ∃ as, ReadsAll s.heap us ds as
  | _, _, _, .nil, .nil => ⟨_, .nil⟩
  | _, _, _, .cons h1 h2, .cons r1 r2 => by
    obtain ⟨as, q1, _⟩ := h1.rd I r1
    obtain ⟨bs, q2⟩ := D1s.rd I h2 r2
    exact ⟨_, .cons q1 q2⟩
theorem D1.one (I : Inv X pins σ H s) {v : V} {d : PyData} {u : Value} (h : D1 X.K H v d) (r : RelV v u)
    (hs : d.showable = true) (hz : d.shown.length ≤ sizeLine) :
    ∃ bs, ReadAtMost s.heap d.depth bs ∧ ReprK X.prog X.w bs s.heap d.depth u d.shown := by
  obtain ⟨as, q, hm⟩ := h.rd I r
  exact ReprK.of_reads q hs hm hz
theorem D1s.each (I : Inv X pins σ H s) {n : Nat} : ∀ {vs : List V} {ds : List PyData} {us : List Value}, D1s X.K H vs ds → Vals vs us →
    PyData.showableAll ds = true → (∀ t ∈ PyData.shownAll ds, t.length ≤ sizeLine) → PyData.depthAll ds ≤ n →
    ∃ bs, ReadAtMost s.heap n bs ∧ ReprAllK X.prog X.w bs s.heap n us (PyData.shownAll ds)
  | _, _, _, .nil, .nil, _, _, _ => ⟨[], (fun _ z => nomatch z), by simp only [PyData.shownAll]; exact .nil⟩
  | _, _, _, .cons (d := d) (ds := ds) h1 h2, .cons r1 r2, hs, hz, hn => by
    have hs' : d.showable = true ∧ PyData.showableAll ds = true := by simpa [PyData.showableAll] using hs
    simp only [PyData.depthAll] at hn
    simp only [PyData.shownAll] at hz ⊢
    obtain ⟨b1, m1, k1⟩ := h1.one I r1 hs'.1 (hz _ List.mem_cons_self)
    obtain ⟨b2, m2, k2⟩ := D1s.each I h2 r2 hs'.2 (fun t ht => hz t (List.mem_cons_of_mem _ ht)) (by omega : PyData.depthAll ds ≤ n)
    refine ⟨b1 ++ b2, (m1.mono (by omega)).append m2, .cons ((k1.more fun b hb => List.mem_append_left _ hb).level_le (by omega)) (k2.more_le (fun b hb => List.mem_append_right _ hb) (Nat.le_refl _))⟩
end

/-- repr of such data where no repr is under way -/
def rRepr (K : PySem.W.Frag) : List V → Hp → VK → Prop := fun xs H Q => ∃ v d, xs = [v] ∧ D2 K H v d ∧ d.showable = true ∧
  d.shown.length ≤ sizeLine ∧ d.depth ≤ 60 ∧ Q (.str d.shown) H
section
variable {X : Cx}
theorem call_repr (hG : X.A.guards = some []) (hu : X.A.units + 64 < cLine) : CallR X (.builtin "repr") (rRepr X.K) := by
  intro pins s σ H xs us Q I rel h
  obtain ⟨v, d, rfl, hd, hs, hz, hdep, q⟩ := h
  obtain ⟨u, rfl, r⟩ := vals1 rel
  cases hd with
  | d1 h1 =>
    cases h1 with
    | dp hp =>
      cases hp with
      | non =>
        cases (show u = Value.none from r)
        simp only [PyData.shown] at q
        exact PySem.P.repr_of_none ⟨.str _, H, I.tok _, ⟨_, rfl⟩, q⟩
      | bl b =>
        cases (show u = Value.bool b from r)
        simp only [PyData.shown] at q
        exact PySem.P.repr_of_bool ⟨.str _, H, I.tok _, ⟨_, rfl⟩, q⟩
      | int i =>
        obtain ⟨t, rfl⟩ := (show ∃ t, u = Value.int i t from r)
        simp only [PyData.shown] at q
        exact PySem.P.repr_of_int (by simpa [PyData.showable] using hs) ⟨.str _, H, I.tok _, ⟨_, rfl⟩, q⟩
      | str x =>
        obtain ⟨t, rfl⟩ := (show ∃ t, u = Value.str x t from r)
        simp only [PyData.shown] at q hz
        exact PySem.P.repr_of_str ⟨.str _, H, I.tok _, ⟨_, rfl⟩, q⟩ hz
      | @lst a ys ds hl ha =>
        cases (show u = Value.ref a from r)
        obtain ⟨as, rd, hm⟩ := (D1.dp (.lst hl ha) : D1 X.K H (.ref a) (.list ds)).rd I rfl
        exact repr_of_reads' rd hs hm hG (by omega) (fun _ _ z => z) (fun h' u tk hk => ⟨.str _, H, I.kept hk, ⟨_, rfl⟩, q⟩) hz
      | @tup a ys ds hl ha =>
        cases (show u = Value.ref a from r)
        obtain ⟨as, rd, hm⟩ := (D1.dp (.tup hl ha) : D1 X.K H (.ref a) (.tuple ds)).rd I rfl
        exact repr_of_reads' rd hs hm hG (by omega) (fun _ _ z => z) (fun h' u tk hk => ⟨.str _, H, I.kept hk, ⟨_, rfl⟩, q⟩) hz
    | @emp a ha =>
      cases (show u = Value.ref a from r)
      obtain ⟨as, rd, hm⟩ := (D1.emp ha : D1 X.K H (.ref a) (.dict [])).rd I rfl
      exact repr_of_reads' rd hs hm hG (by omega) (fun _ _ z => z) (fun h' u tk hk => ⟨.str _, H, I.kept hk, ⟨_, rfl⟩, q⟩) hz
  | @lst a ys ds hl ha =>
    cases (show u = Value.ref a from r)
    obtain ⟨its, rv, ⟨o, n, ho, hc, _, ho2⟩, _⟩ := I.list hl
    obtain ⟨as, rda⟩ := ha.rd I rv
    have hz' : (listText (PyData.shownAll ds)).length ≤ sizeLine := by simpa only [PyData.shown] using hz
    simp only [PyData.depth] at hdep
    obtain ⟨bs, hb, hk⟩ := ha.each I rv (by simpa [PyData.showable] using hs) (fun t ht => Nat.le_trans (listText_mem_le ht) hz') (Nat.le_refl _)
    have hna : a ∉ bs := not_mem_of_deeper (.list ho hc ho2 rda) (by simp only [PyData.depth]; omega) hb
    simp only [PyData.shown] at q
    have ty : s.TypeIs (.ref a) "list" := ⟨o, ho, hc⟩
    have fin : ∀ h' u tk, (∀ b o, s.heap.get? b = some o → h'.get? b = some o) →
        EP X pins σ Q (.str (listText (PyData.shownAll ds)) u) { s with heap := h', toks := tk } :=
      fun h' u tk hk => ⟨.str _, H, I.kept hk, ⟨_, rfl⟩, q⟩
    refine call_repr_slot (by omega) ty PySem.F.slot_list_repr.toG ?_
    cases its with
    | nil =>
      cases rda
      simp only [PyData.shownAll, listText_nil] at fin
      exact call_list_repr_empty ty ho ho2 ⟨_, _, rfl, fin s.heap _ _ fun _ _ e => e⟩
    | cons x l =>
      exact call_list_reprK ho hc ho2 hna (by simpa using hk.length_eq) (fun i y e => hk.item i y (by simpa using e)) hG
        (fun b _ => Clear.nil b) (by show X.A.units + 1 + (_ + 1) < cLine; omega) (fun _ _ z => z) (fun h' u tk hk => ⟨_, _, rfl, fin h' u tk hk⟩) hz'
  | @tup a ys ds hl ha =>
    cases (show u = Value.ref a from r)
    obtain ⟨its, rv, ⟨o, ho, hc, n, ho2⟩, _⟩ := I.tuple hl
    obtain ⟨as, rda⟩ := ha.rd I rv
    have hz' : (tupleText (PyData.shownAll ds)).length ≤ sizeLine := by simpa only [PyData.shown] using hz
    simp only [PyData.depth] at hdep
    obtain ⟨bs, hb, hk⟩ := ha.each I rv (by simpa [PyData.showable] using hs) (fun t ht => Nat.le_trans (tupleText_mem_le ht) hz') (Nat.le_refl _)
    have hna : a ∉ bs := not_mem_of_deeper (.tuple ho hc ho2 rda) (by simp only [PyData.depth]; omega) hb
    simp only [PyData.shown] at q
    have ty : s.TypeIs (.ref a) "tuple" := ⟨o, ho, hc⟩
    refine call_repr_slot (by omega) ty PySem.F.slot_tuple_repr ?_
    exact call_tuple_reprK ho hc ho2 hna (by simpa using hk) hG (fun b _ => Clear.nil b) (by show X.A.units + 1 + (_ + 1) < cLine; omega) (fun _ _ z => z)
      (fun h' u tk hk => ⟨_, _, rfl, ⟨.str _, H, I.kept hk, ⟨_, rfl⟩, q⟩⟩) hz'
end
end Gd
namespace Gd
open PySem PySem.Spec PyProof.Rows L2
/-- a def of the top, with its name -/
structure DefAt (K : PySem.W.Frag) (mg : Str → Option Value) (x : Str) (st : Stmt) (ps : List Str) : Prop where
  ex : ∃ (f : Addr) (fd : FuncData), Fun K x x st f fd ∧ mg x = some (.ref f) ∧ Binds K fd ps []
/-- a def by its name, its promise kept where no repr is under way -/
structure CalG (P : Program) (w : World) (K : PySem.W.Frag) (mg : Str → Option Value) (base : Heap) (k : Nat) (x : Str) (sp : Sp) : Prop where
  ex : ∃ (f : Addr) (fd : FuncData) (ps : List Str), FnG P w K mg base CX0 k f fd ps sp ∧ mg x = some (.ref f) ∧
    PySem.W.keepIn K (.ref f) = true ∧ Binds K fd ps []
section
variable {P : Program} {w : World} {K : PySem.W.Frag} {mg : Str → Option Value} {base : Heap}
theorem DefAt.cal {x : Str} {st : Stmt} {N ps : List Str} {k : Nat} {sp : Sp} (D : DefAt K mg x st ps) (S : FnScope N ps (defScope st))
    (ar : ∀ vs H Q E, sp vs H Q E → vs.length = ps.length)
    (bd : ∀ (f : Addr) (cdv : Value) (A : Around) (outer : List Env) (s : Shared) (H : Hp) (vs : List V) (Q : VK) (E : XK),
      A.guards = some [] → Room k (A.deeper (envOfC x (defScope st) s.heap.objs.size f cdv)) → sp vs H Q E →
      ∃ t, PSs (cxOf CX0 P w K mg base N x (defScope st) f cdv A outer s H E).nox (defBody st) t ∧
        t { nx := fun _ H' => Q .non H', rt := Q } (start N vs) H) : CalG P w K mg base (k + 1) x sp := by
  obtain ⟨f, fd, F, m, b⟩ := D.ex
  exact ⟨f, fd, ps, okG F S ar (bd f), m, F.kp, b⟩
theorem DefAt.mk' {X : K.In base} {x : Str} {st : Stmt} {ps : List Str} {f : Addr} {oc : Value} {od an : Option Addr} {osl : Array (Option Value)} {kV doc pm cdv ct : Value}
    (m : mg x = some (.ref f))
    (l : K.lookup f = some ⟨oc, od, .func (PySem.W.fnOf x x (defArgs st) (defBody st) (defScope st) .none kV doc pm an cdv ct), osl⟩)
    (c : PySem.W.codeIn K cdv x = true) (k : PySem.W.keepIn K (.ref f) = true)
    (b : ∀ (kV doc pm : Value) (an : Option Addr) (cdv ct : Value) (us : List Value), us.length = ps.length →
      bindArgs (PySem.W.fnOf x x (defArgs st) (defBody st) (defScope st) .none kV doc pm an cdv ct) ⟨us, []⟩ = pure (ps.zip us)) :
    DefAt K mg x st ps := by
  have F := fun_mk (st := st) l c k
  exact ⟨f, _, F, m, F.binds b⟩
end
section
variable {X : Cx} {k : Nat} {sp : Sp} {x : Str} {p pos : Pos} {e : Expr} {es : List Expr} {t : TA}
theorem pe_g (c : CalG X.prog X.w X.K X.mg X.base k x sp) (hG : X.A.guards = some []) (hr : Room k X.A) (hg : Gl X x)
    (ha : PA X (e :: es) t) (hdb : (x == ("__debug__" : Str)) = false := by decide)
    (he : starEach (e :: es) X.env = (false, eval e X.env) :: starEach es X.env := by rfl)
    (hpl : (backTo pos (starEach es X.env)).any (·.1) = false := by rfl) :
    PE X (.Call (.Name x p) (e :: es) [] pos) (tCall sp [] E0 t) := by
  obtain ⟨f, fd, ps, F, m, kp, b⟩ := c.ex
  exact pe_callG F hG hr hg m kp b .nil pass0 ha hdb he hpl
/-- a module's constant, a whole number -/
def GInt (mg : Str → Option Value) (x : Str) (n : Int) : Prop := ∃ t, mg x = some (.int n t)
theorem pe_gi {n : Int} (hg : Gl X x) (h : GInt X.mg x n) (hd : (x == ("__debug__" : Str)) = false := by decide) : PE X (.Name x pos) (tC (.int n)) := by
  obtain ⟨t, h⟩ := h
  exact pe_glob hg h ⟨t, rfl⟩ hd
/-- a module's constant, a text -/
def GStr (mg : Str → Option Value) (x : Str) (z : Str) : Prop := ∃ t, mg x = some (.str z t)
theorem pe_gs {z : Str} (hg : Gl X x) (h : GStr X.mg x z) (hd : (x == ("__debug__" : Str)) = false := by decide) : PE X (.Name x pos) (tC (.str z)) := by
  obtain ⟨t, h⟩ := h
  exact pe_glob hg h ⟨t, rfl⟩ hd
theorem hu64 {A : Around} (hr : Room k A) : A.units + 64 < cLine := by
  have := hr.un
  omega
/-- x is True, x is False, for any x -/
def isB (x : V) (b : Bool) : Bool := match x with
  | .bl a => a == b
  | _ => false
theorem op_isB : OpR X (compareOp .Is) (fun x y H Q => ∃ b, y = .bl b ∧ Q (.bl (isB x b)) H) := by
  intro pins s σ H x y v u Q I rx ry h
  obtain ⟨b, rfl, q⟩ := h
  cases (show u = Value.bool b from ry)
  cases x with
  | non =>
    cases (show v = Value.none from rx)
    exact wpAny_is_other rfl (fun z => nomatch z) ⟨.bl false, H, I, rfl, q⟩
  | bl a =>
    cases (show v = Value.bool a from rx)
    by_cases e : a = b
    · subst e
      refine wpAny_is_self rfl ⟨.bl true, H, I, rfl, ?_⟩
      simpa [isB] using q
    · refine wpAny_is_other rfl (fun z => e (Value.bool.inj z)) ⟨.bl false, H, I, rfl, ?_⟩
      have e2 : isB (.bl a) b = false := beq_eq_false_iff_ne.mpr e
      rw [e2] at q
      exact q
  | int i =>
    obtain ⟨t, rfl⟩ := (show ∃ t, v = Value.int i t from rx)
    exact wpAny_is_other rfl (fun z => nomatch z) ⟨.bl false, H, I, rfl, q⟩
  | str i =>
    obtain ⟨t, rfl⟩ := (show ∃ t, v = Value.str i t from rx)
    exact wpAny_is_other rfl (fun z => nomatch z) ⟨.bl false, H, I, rfl, q⟩
  | byt i =>
    obtain ⟨t, rfl⟩ := (show ∃ t, v = Value.bytes i t from rx)
    exact wpAny_is_other rfl (fun z => nomatch z) ⟨.bl false, H, I, rfl, q⟩
  | flt i =>
    obtain ⟨t, rfl⟩ := (show ∃ t, v = Value.float i t from rx)
    exact wpAny_is_other rfl (fun z => nomatch z) ⟨.bl false, H, I, rfl, q⟩
  | ref i =>
    cases (show v = Value.ref i from rx)
    exact wpAny_is_other rfl (fun z => nomatch z) ⟨.bl false, H, I, rfl, q⟩
  | ty i =>
    cases (show v = Value.type i from rx)
    exact wpAny_is_other rfl (fun z => nomatch z) ⟨.bl false, H, I, rfl, q⟩
theorem op_isntB : OpR X (compareOp .IsNot) (fun x y H Q => ∃ b, y = .bl b ∧ Q (.bl (!isB x b)) H) := by
  intro pins s σ H x y v u Q I rx ry h
  obtain ⟨b, rfl, q⟩ := h
  cases (show u = Value.bool b from ry)
  cases x with
  | non =>
    cases (show v = Value.none from rx)
    exact wpAny_isNot_other rfl (fun z => nomatch z) ⟨.bl true, H, I, rfl, q⟩
  | bl a =>
    cases (show v = Value.bool a from rx)
    by_cases e : a = b
    · subst e
      refine wpAny_isNot_self rfl ⟨.bl false, H, I, rfl, ?_⟩
      simpa [isB] using q
    · refine wpAny_isNot_other rfl (fun z => e (Value.bool.inj z)) ⟨.bl true, H, I, rfl, ?_⟩
      have e2 : isB (.bl a) b = false := beq_eq_false_iff_ne.mpr e
      rw [e2] at q
      exact q
  | int i =>
    obtain ⟨t, rfl⟩ := (show ∃ t, v = Value.int i t from rx)
    exact wpAny_isNot_other rfl (fun z => nomatch z) ⟨.bl true, H, I, rfl, q⟩
  | str i =>
    obtain ⟨t, rfl⟩ := (show ∃ t, v = Value.str i t from rx)
    exact wpAny_isNot_other rfl (fun z => nomatch z) ⟨.bl true, H, I, rfl, q⟩
  | byt i =>
    obtain ⟨t, rfl⟩ := (show ∃ t, v = Value.bytes i t from rx)
    exact wpAny_isNot_other rfl (fun z => nomatch z) ⟨.bl true, H, I, rfl, q⟩
  | flt i =>
    obtain ⟨t, rfl⟩ := (show ∃ t, v = Value.float i t from rx)
    exact wpAny_isNot_other rfl (fun z => nomatch z) ⟨.bl true, H, I, rfl, q⟩
  | ref i =>
    cases (show v = Value.ref i from rx)
    exact wpAny_isNot_other rfl (fun z => nomatch z) ⟨.bl true, H, I, rfl, q⟩
  | ty i =>
    cases (show v = Value.type i from rx)
    exact wpAny_isNot_other rfl (fun z => nomatch z) ⟨.bl true, H, I, rfl, q⟩
end
/-! names of the built-ins -/
theorem boot_len_ : bootBuiltins "len" = some (.builtin "len") := by decide +kernel
theorem boot_max_ : bootBuiltins "max" = some (.builtin "max") := by decide +kernel
theorem boot_min_ : bootBuiltins "min" = some (.builtin "min") := by decide +kernel
theorem boot_abs_ : bootBuiltins "abs" = some (.builtin "abs") := by decide +kernel
theorem boot_all_ : bootBuiltins "all" = some (.builtin "all") := by decide +kernel
theorem boot_repr_ : bootBuiltins "repr" = some (.builtin "repr") := by decide +kernel
theorem boot_isinstance_ : bootBuiltins "isinstance" = some (.builtin "isinstance") := by decide +kernel
theorem boot_int_ : bootBuiltins "int" = some (.type "int") := by decide +kernel
theorem boot_bool_ : bootBuiltins "bool" = some (.type "bool") := by decide +kernel
theorem boot_str_ : bootBuiltins "str" = some (.type "str") := by decide +kernel
theorem boot_list_ : bootBuiltins "list" = some (.type "list") := by decide +kernel
theorem boot_tuple_ : bootBuiltins "tuple" = some (.type "tuple") := by decide +kernel
theorem boot_dict_ : bootBuiltins "dict" = some (.type "dict") := by decide +kernel

/-! ### the box of a cell: what is drawn of it is any number below the bound -/
def BoxAt (H : Hp) (b : Addr) : Prop := ∃ x y z : Int, 0 ≤ x ∧ 0 ≤ y ∧ y < 2147483629 ∧ H b = some (.lst [.int x, .int y, .int z])
/-- all but the box is kept -/
def Kp (b : Addr) (H H' : Hp) : Prop := ∀ c o, c ≠ b → H c = some o → H' c = some o
theorem Kp.refl {b : Addr} {H : Hp} : Kp b H H := fun _ _ _ z => z
theorem Kp.trans {b : Addr} {H H1 H2 : Hp} (h : Kp b H H1) (k : Kp b H1 H2) : Kp b H H2 := fun c o n z => k c o n (h c o n z)
theorem Kp.upd {b p : Addr} {H H' : Hp} {o : HO} (h : Kp b H H') (n : H' p = none) : Kp b H (upd H' p o) := fun c u hc z => by
  have z2 := h c u hc z
  rw [upd_ne (ne_of_none z2 n)]
  exact z2
theorem BoxAt.upd {b p : Addr} {H : Hp} {o : HO} (h : BoxAt H b) (n : H p = none) : BoxAt (L2.upd H p o) b := by
  obtain ⟨x, y, z, h1, h2, h3, h4⟩ := h
  refine ⟨x, y, z, h1, h2, h3, ?_⟩
  rw [upd_ne (ne_of_none h4 n)]
  exact h4
theorem BoxAt.ne {b p : Addr} {H : Hp} (h : BoxAt H b) (n : H p = none) : p ≠ b := by
  obtain ⟨x, y, z, _, _, _, h4⟩ := h
  exact (ne_of_none h4 n).symm
def spTake : Sp := fun vs H Q _ => ∃ (b : Addr) (m : Int), vs = [.ref b, .int m] ∧ BoxAt H b ∧ 0 < m ∧ m ≤ 1000000000 ∧
  ∀ (d : Int) (H' : Hp), 0 ≤ d → d < m → BoxAt H' b → (∀ c, c ≠ b → H' c = H c) → Q (.int d) H'
def spCell (K : PySem.W.Frag) : Sp := fun vs H Q _ => ∃ (a : Addr) (ns : List Int) (k : Int), vs = [.ref a, .int k] ∧ SqL K H a (ns.map V.int) ∧
  ns.length ≤ 63 ∧ 0 ≤ k ∧ ∀ n : Int, Q (.int n) H
def spBox : Sp := fun vs H Q _ => ∃ n : Int, vs = [.int n] ∧ ∀ (b : Addr) (H' : Hp), H b = none → BoxAt H' b → (∀ c, c ≠ b → H' c = H c) → Q (.ref b) H'
theorem kp_of {b : Addr} {H H' : Hp} (h : ∀ c, c ≠ b → H' c = H c) : Kp b H H' := fun c o n z => by
  rw [h c n]
  exact z
theorem atI_ints {ns : List Int} {k : Int} (h0 : 0 ≤ k) (h1 : k < ns.length) : ∃ n, atI (ns.map V.int) k = some (.int n) := by
  obtain ⟨j, rfl⟩ : ∃ j : Nat, k = j := ⟨k.toNat, by omega⟩
  have hj : j < ns.length := by omega
  refine ⟨ns[j], atI_nat ?_⟩
  rw [List.getElem?_map, List.getElem?_eq_getElem hj]
  rfl
end Gd
namespace Gd
open PySem PySem.Spec PyProof.Rows L2
/-! ### data by its shape -/
/-- all but what N names is kept -/
def Kq (N : Addr → Prop) (H H' : Hp) : Prop := ∀ c o, ¬ N c → H c = some o → H' c = some o
mutual
/-- the value shows the data d, laid in objects that N does not name -/
inductive Da (H : Hp) (N : Addr → Prop) : V → PyData → Prop
  | non : Da H N .non .none
  | bl (b : Bool) : Da H N (.bl b) (.bool b)
  | int (i : Int) : Da H N (.int i) (.int i)
  | str (x : Str) : Da H N (.str x) (.str x)
  | lst {a : Addr} {xs : List V} {ds : List PyData} : ¬ N a → H a = some (.lst xs) → Das H N xs ds → Da H N (.ref a) (.list ds)
  | tup {a : Addr} {xs : List V} {ds : List PyData} : ¬ N a → H a = some (.tup xs) → Das H N xs ds → Da H N (.ref a) (.tuple ds)
inductive Das (H : Hp) (N : Addr → Prop) : List V → List PyData → Prop
  | nil : Das H N [] []
  | cons {v : V} {vs : List V} {d : PyData} {ds : List PyData} : Da H N v d → Das H N vs ds → Das H N (v :: vs) (d :: ds)
end
mutual
theorem Da.kq {H H' : Hp} {N : Addr → Prop} (k : Kq N H H') : ∀ {v : V} {d : PyData}, Da H N v d → Da H' N v d
  | _, _, .non => .non
  | _, _, .bl b => .bl b
  | _, _, .int i => .int i
  | _, _, .str x => .str x
  | _, _, .lst n h s => .lst n (k _ _ n h) (Das.kq k s)
  | _, _, .tup n h s => .tup n (k _ _ n h) (Das.kq k s)
theorem Das.kq {H H' : Hp} {N : Addr → Prop} (k : Kq N H H') : ∀ {vs : List V} {ds : List PyData}, Das H N vs ds → Das H' N vs ds
  | _, _, .nil => .nil
  | _, _, .cons h s => .cons (Da.kq k h) (Das.kq k s)
end
mutual
theorem Da.wk {H : Hp} {N M : Addr → Prop} (k : ∀ a, M a → N a) : ∀ {v : V} {d : PyData}, Da H N v d → Da H M v d
  | _, _, .non => .non
  | _, _, .bl b => .bl b
  | _, _, .int i => .int i
  | _, _, .str x => .str x
  | _, _, .lst n h s => .lst (fun z => n (k _ z)) h (Das.wk k s)
  | _, _, .tup n h s => .tup (fun z => n (k _ z)) h (Das.wk k s)
theorem Das.wk {H : Hp} {N M : Addr → Prop} (k : ∀ a, M a → N a) : ∀ {vs : List V} {ds : List PyData}, Das H N vs ds → Das H M vs ds
  | _, _, .nil => .nil
  | _, _, .cons h s => .cons (Da.wk k h) (Das.wk k s)
end
mutual
theorem Da.dp {K : PySem.W.Frag} {H : Hp} {N : Addr → Prop} : ∀ {v : V} {d : PyData}, Da H N v d → Dp K H v d
  | _, _, .non => .non
  | _, _, .bl b => .bl b
  | _, _, .int i => .int i
  | _, _, .str x => .str x
  | _, _, .lst _ h s => .lst (SqL.of h) (Das.dp s)
  | _, _, .tup _ h s => .tup (SqT.of h) (Das.dp s)
theorem Das.dp {K : PySem.W.Frag} {H : Hp} {N : Addr → Prop} : ∀ {vs : List V} {ds : List PyData}, Das H N vs ds → DpAll K H vs ds
  | _, _, .nil => .nil
  | _, _, .cons h s => .cons (Da.dp h) (Das.dp s)
end
theorem Das.len {H : Hp} {N : Addr → Prop} : ∀ {vs : List V} {ds : List PyData}, Das H N vs ds → vs.length = ds.length
  | _, _, .nil => rfl
  | _, _, .cons _ s => by rw [List.length_cons, List.length_cons, s.len]
theorem Das.get {H : Hp} {N : Addr → Prop} : ∀ {vs : List V} {ds : List PyData} {i : Nat} {v : V}, Das H N vs ds → vs[i]? = some v → ∃ d, ds[i]? = some d ∧ Da H N v d
  | _, _, 0, _, .cons h _, e => ⟨_, rfl, by
      have e2 := Option.some.inj e
      subst e2
      exact h⟩
  | _, _, i + 1, v, .cons _ s, e => s.get (i := i) (v := v) e
  | _, _, i, _, .nil, e => by simp at e
theorem Das.snoc {H : Hp} {N : Addr → Prop} {v : V} {d : PyData} : ∀ {vs : List V} {ds : List PyData}, Das H N vs ds → Da H N v d → Das H N (vs ++ [v]) (ds ++ [d])
  | _, _, .nil, h => .cons h .nil
  | _, _, .cons g s, h => .cons g (s.snoc h)
theorem Das.set {H : Hp} {N : Addr → Prop} {v : V} {d : PyData} : ∀ {vs : List V} {ds : List PyData} {i : Nat}, Das H N vs ds → Da H N v d → Das H N (vs.set i v) (ds.set i d)
  | _, _, _, .nil, _ => .nil
  | _, _, 0, .cons _ s, h => .cons h s
  | _, _, _ + 1, .cons g s, h => .cons g (s.set h)

theorem same_sqT {K : PySem.W.Frag} {H H' : Hp} {a : Addr} {xs : List V} (s : Same H H') (h : SqT K H a xs) : SqT K H' a xs := by
  rcases h with h | h
  · refine .inl ?_
    rcases h with h | ⟨o, h⟩
    · exact .inl (s _ _ h)
    · exact .inr ⟨o, s _ _ h⟩
  · exact .inr h
mutual
theorem dpSame {K : PySem.W.Frag} {H H' : Hp} (s : Same H H') : ∀ {v : V} {d : PyData}, Dp K H v d → Dp K H' v d
  | _, _, .non => .non
  | _, _, .bl b => .bl b
  | _, _, .int i => .int i
  | _, _, .str x => .str x
  | _, _, .lst h r => .lst (s.seq h) (dpSames s r)
  | _, _, .tup h r => .tup (same_sqT s h) (dpSames s r)
theorem dpSames {K : PySem.W.Frag} {H H' : Hp} (s : Same H H') : ∀ {vs : List V} {ds : List PyData}, DpAll K H vs ds → DpAll K H' vs ds
  | _, _, .nil => .nil
  | _, _, .cons h r => .cons (dpSame s h) (dpSames s r)
end
theorem dpLen {K : PySem.W.Frag} {H : Hp} : ∀ {vs : List V} {ds : List PyData}, DpAll K H vs ds → vs.length = ds.length
  | _, _, .nil => rfl
  | _, _, .cons _ s => by rw [List.length_cons, List.length_cons, dpLen s]
theorem dpGet {K : PySem.W.Frag} {H : Hp} : ∀ {vs : List V} {ds : List PyData} {i : Nat} {v : V}, DpAll K H vs ds → vs[i]? = some v → ∃ d, ds[i]? = some d ∧ Dp K H v d
  | _, _, 0, _, .cons h _, e => ⟨_, rfl, by
      have e2 := Option.some.inj e
      subst e2
      exact h⟩
  | _, _, i + 1, v, .cons _ s, e => dpGet (i := i) (v := v) s e
  | _, _, i, _, .nil, e => by simp at e
theorem d1Same {K : PySem.W.Frag} {H H' : Hp} (s : Same H H') {v : V} {d : PyData} (h : D1 K H v d) : D1 K H' v d := by
  cases h with
  | dp h => exact .dp (dpSame s h)
  | emp h => exact .emp (s _ _ h)
/-! ### the class of data -/
def tyN : PyData → String
  | .none => "NoneType"
  | .bool _ => "bool"
  | .int _ => "int"
  | .str _ => "str"
  | .list _ => "list"
  | .tuple _ => "tuple"
  | .dict _ => "dict"
def isIntD : PyData → Bool
  | .bool _ => true
  | .int _ => true
  | _ => false
def isBoolD : PyData → Bool
  | .bool _ => true
  | _ => false
def isStrD : PyData → Bool
  | .str _ => true
  | _ => false
def isTupD : PyData → Bool
  | .tuple _ => true
  | _ => false
def isSeqD : PyData → Bool
  | .list _ => true
  | .tuple _ => true
  | _ => false
theorem tyL {K : PySem.W.Frag} {H : Hp} {a : Addr} {xs : List V} (h : SqL K H a xs) : TyX K H (.ref a) (.type "list") := by
  rcases h with h | ⟨o, _, _, h, hc, _⟩
  · rcases h with h | ⟨o, h⟩
    · exact .base (.lst h)
    · exact .base (.frz h)
  · exact .kList h hc
theorem tyT {K : PySem.W.Frag} {H : Hp} {a : Addr} {xs : List V} (h : SqT K H a xs) : TyX K H (.ref a) (.type "tuple") := by
  rcases h with h | ⟨o, _, _, h, hc, _⟩
  · rcases h with h | ⟨o, h⟩
    · exact .base (.tup h)
    · exact .fTuple h
  · exact .kTuple h hc
theorem tyD {K : PySem.W.Frag} {H : Hp} {v : V} {d : PyData} (h : D1 K H v d) : TyX K H v (.type (tyN d)) := by
  cases h with
  | dp h =>
    cases h with
    | non => exact .base .non
    | bl b => exact .base (.bl b)
    | int i => exact .base (.int i)
    | str x => exact .base (.str x)
    | lst h _ => exact tyL h
    | tup h _ => exact tyT h
  | emp h => exact .base (.dK h)
theorem kInt {K : PySem.W.Frag} (d : PyData) : PySem.W.kitOne K (.type (tyN d)) (.type "int") = some (isIntD d) := by
  cases d
  all_goals exact kit_ty (by simp only [tyN, isIntD]; decide +kernel)
theorem kBool {K : PySem.W.Frag} (d : PyData) : PySem.W.kitOne K (.type (tyN d)) (.type "bool") = some (isBoolD d) := by
  cases d
  all_goals exact kit_ty (by simp only [tyN, isBoolD]; decide +kernel)
theorem kStr {K : PySem.W.Frag} (d : PyData) : PySem.W.kitOne K (.type (tyN d)) (.type "str") = some (isStrD d) := by
  cases d
  all_goals exact kit_ty (by simp only [tyN, isStrD]; decide +kernel)
theorem kTup {K : PySem.W.Frag} (d : PyData) : PySem.W.kitOne K (.type (tyN d)) (.type "tuple") = some (isTupD d) := by
  cases d
  all_goals exact kit_ty (by simp only [tyN, isTupD]; decide +kernel)
theorem kLst {K : PySem.W.Frag} (d : PyData) : PySem.W.kitOne K (.type (tyN d)) (.type "list") = some (isSeqD d && !isTupD d) := by
  cases d
  all_goals exact kit_ty (by simp only [tyN, isSeqD, isTupD]; decide +kernel)
theorem kSeq {K : PySem.W.Frag} (d : PyData) : PySem.W.kitAny K (.type (tyN d)) [.type "list", .type "tuple"] = some (isSeqD d) := by
  refine kitAny_cons (kLst d) (fun z => kitAny_cons (kTup d) (fun y => ?_) fun y => ?_) fun z => ?_
  · have e : isSeqD d = false := by
      cases d
      all_goals simp_all [isSeqD, isTupD]
    rw [e]
    exact kitAny_nil
  · cases d
    all_goals simp_all [isSeqD, isTupD]
  · cases d
    all_goals simp_all [isSeqD, isTupD]
theorem clsSeq : Paired ClsV [.ty "list", .ty "tuple"] [.type "list", .type "tuple"] := .cons (.ty _) (.cons (.ty _) .nil)
/-! ### how long it is when shown -/
def Big (n : Int) : Prop := -(10 ^ 40) ≤ n ∧ n ≤ 10 ^ 40
theorem big_log {n : Int} (h : Big n) : n.natAbs.log2 < 1920 := by
  have h0 : n.natAbs < 2 ^ 1920 := by
    have h1 : n.natAbs ≤ 10 ^ 40 := by
      obtain ⟨h1, h2⟩ := h
      omega
    exact Nat.lt_of_le_of_lt h1 (by decide +kernel)
  by_cases z : n.natAbs = 0
  · rw [z]
    decide +kernel
  · exact (Nat.log2_lt z).mpr h0
/-- it may be shown, in so many signs, so deep -/
structure Okd (d : PyData) (m e : Nat) : Prop where
  sh : d.showable = true
  ln : d.shown.length ≤ m
  dp : d.depth ≤ e
theorem Okd.up {d : PyData} {m e m' e' : Nat} (h : Okd d m e) (h1 : m ≤ m') (h2 : e ≤ e') : Okd d m' e' := ⟨h.sh, Nat.le_trans h.ln h1, Nat.le_trans h.dp h2⟩
theorem okNone : Okd .none 5 0 := ⟨by simp only [PyData.showable], by simp only [PyData.shown]; decide +kernel, by simp only [PyData.depth]; decide⟩
theorem okBool (b : Bool) : Okd (.bool b) 5 0 := by
  refine ⟨by simp only [PyData.showable], ?_, by simp only [PyData.depth]; decide⟩
  cases b
  · simp only [PyData.shown]
    decide +kernel
  · simp only [PyData.shown]
    decide +kernel
theorem okInt {n : Int} (h : Big n) : Okd (.int n) 50 0 := by
  refine ⟨?_, ?_, by simp only [PyData.depth]; decide⟩
  · simp only [PyData.showable, decide_eq_true_eq]
    exact big_log h
  · simp only [PyData.shown]
    rw [PySem.ofString_length]
    have h1 : n.natAbs < 10 ^ 41 := by
      have h1 : n.natAbs ≤ 10 ^ 40 := by
        obtain ⟨h1, h2⟩ := h
        omega
      exact Nat.lt_of_le_of_lt h1 (by decide +kernel)
    exact Nat.le_trans (int_text_length_le10 (k := 41) (by decide) h1) (by decide)
theorem okStr {x : Str} {m : Nat} (h : (reprText x).length ≤ m) : Okd (.str x) m 0 :=
  ⟨by simp only [PyData.showable], by simp only [PyData.shown]; exact h, by simp only [PyData.depth]; decide⟩
theorem okEmp : Okd (.dict []) 5 1 := by
  refine ⟨by simp only [PyData.showable, PyData.showableKv], ?_, by simp only [PyData.depth, PyData.depthKv]; decide⟩
  simp only [PyData.shown, PyData.shownKv]
  decide +kernel
theorem sum_le {m : Nat} : ∀ ts : List Str, (∀ t ∈ ts, t.length ≤ m) → (ts.map (·.length)).sum ≤ m * ts.length
  | [], _ => by simp
  | t :: r, h => by
    have h1 := h t List.mem_cons_self
    have h2 := sum_le r fun x hx => h x (List.mem_cons_of_mem _ hx)
    rw [List.map_cons, List.sum_cons, List.length_cons, Nat.mul_succ]
    show t.length + _ ≤ _
    omega
theorem oks {m e : Nat} : ∀ {ds : List PyData}, (∀ d ∈ ds, Okd d m e) → PyData.showableAll ds = true ∧ (∀ t ∈ PyData.shownAll ds, t.length ≤ m) ∧ PyData.depthAll ds ≤ e ∧ (PyData.shownAll ds).length = ds.length
  | [], _ => ⟨by simp only [PyData.showableAll], by simp [PyData.shownAll], by simp only [PyData.depthAll]; exact Nat.zero_le _, by simp only [PyData.shownAll]; rfl⟩
  | d :: r, h => by
    have a := h d List.mem_cons_self
    obtain ⟨b1, b2, b3, b4⟩ := oks fun x hx => h x (List.mem_cons_of_mem _ hx)
    refine ⟨by simp only [PyData.showableAll, a.sh, b1, Bool.and_self], ?_, ?_, by simp only [PyData.shownAll, List.length_cons, b4]⟩
    · intro t ht
      simp only [PyData.shownAll, List.mem_cons] at ht
      rcases ht with rfl | ht
      · exact a.ln
      · exact b2 t ht
    · have := a.dp
      simp only [PyData.depthAll]
      omega
theorem okList {ds : List PyData} {m e n : Nat} (h : ∀ d ∈ ds, Okd d m e) (l : ds.length ≤ n) : Okd (.list ds) (m * n + 2 * n + 3) (e + 1) := by
  obtain ⟨b1, b2, b3, b4⟩ := oks h
  refine ⟨by simp only [PyData.showable, b1], ?_, by simp only [PyData.depth]; omega⟩
  simp only [PyData.shown]
  have h1 := listText_len_le (PyData.shownAll ds)
  have h2 := sum_le _ b2
  rw [b4] at h1 h2
  have h3 : m * ds.length ≤ m * n := Nat.mul_le_mul_left m l
  omega
theorem okTuple {ds : List PyData} {m e n : Nat} (h : ∀ d ∈ ds, Okd d m e) (l : ds.length ≤ n) : Okd (.tuple ds) (m * n + 2 * n + 3) (e + 1) := by
  obtain ⟨b1, b2, b3, b4⟩ := oks h
  refine ⟨by simp only [PyData.showable, b1], ?_, by simp only [PyData.depth]; omega⟩
  simp only [PyData.shown]
  have h1 := tupleText_len_le (PyData.shownAll ds)
  have h2 := sum_le _ b2
  rw [b4] at h1 h2
  have h3 : m * ds.length ≤ m * n := Nat.mul_le_mul_left m l
  omega
theorem line_le {n : Nat} (h : n ≤ 1000000) : n ≤ sizeLine := Nat.le_trans h (by decide)
theorem bLn (B : Bool) : (PyData.bool B).shown.length ≤ sizeLine := Nat.le_trans (okBool B).ln (by decide)
theorem bDp (B : Bool) : (PyData.bool B).depth ≤ 60 := Nat.le_trans (okBool B).dp (by decide)
theorem ifSame {x : V} {A B : Prop} (h : B) : if (!decide (x = x)) = true then A else B := by
  rw [decide_eq_true rfl]
  exact h
/-! ### heaps and picks -/
theorem same_new {H : Hp} {p : Addr} {o : HO} (h : H p = none) : Same H (upd H p o) := fun b x e => by
  rw [upd_ne (ne_of_none e h)]
  exact e
theorem kep {H : Hp} {p q : Addr} {o u : HO} (h : H p = some o) (n : H q = none) : (upd H q u) p = some o := by
  rw [upd_ne (ne_of_none h n)]
  exact h
theorem upd_none {H : Hp} {p q : Addr} {o : HO} (h : upd H p o q = none) : H q = none := by
  unfold upd at h
  split at h
  · cases h
  · exact h
theorem pickL (xs : List V) {k : Int} (h0 : 0 ≤ k) (h1 : k < xs.length) : ∃ v, v ∈ xs ∧ atI xs k = some v := by
  obtain ⟨j, rfl⟩ : ∃ j : Nat, k = j := ⟨k.toNat, by omega⟩
  have hj : j < xs.length := by omega
  exact ⟨xs[j], List.getElem_mem hj, atI_nat (List.getElem?_eq_getElem hj)⟩
theorem pickK (xs : List V) {k : Int} (h0 : 0 ≤ k) (h1 : k < xs.length) : ∃ v, xs[k.toNat]? = some v ∧ atI xs k = some v := by
  obtain ⟨j, rfl⟩ : ∃ j : Nat, k = j := ⟨k.toNat, by omega⟩
  have hj : j < xs.length := by omega
  exact ⟨xs[j], List.getElem?_eq_getElem hj, atI_nat (List.getElem?_eq_getElem hj)⟩
theorem boxAway {H : Hp} {b D : Addr} {o : HO} (h : BoxAt H b) (n : D ≠ b) : BoxAt (upd H D o) b := by
  obtain ⟨x, y, z, h1, h2, h3, h4⟩ := h
  refine ⟨x, y, z, h1, h2, h3, ?_⟩
  rw [upd_ne n.symm]
  exact h4
theorem boxSame {b : Addr} {H H' : Hp} (h : BoxAt H b) (s : Same H H') : BoxAt H' b := by
  obtain ⟨x, y, z, h1, h2, h3, h4⟩ := h
  exact ⟨x, y, z, h1, h2, h3, s _ _ h4⟩
theorem same_kp {b : Addr} {H H' : Hp} (s : Same H H') : Kp b H H' := fun c o _ z => s c o z
theorem same_keep {H H' H'' : Hp} {b : Addr} (s : Same H H') (n : H' b = none) (k : ∀ c o, c ≠ b → H' c = some o → H'' c = some o) : Same H H'' := fun c o z =>
  k c o (ne_of_none (s c o z) n) (s c o z)
/-- new in H, where the box is b -/
def Nw (H : Hp) (b : Addr) : Addr → Prop := fun c => c = b ∨ ∃ o, H c = some o
theorem nw_of {H H' : Hp} {b p : Addr} (k : Kp b H H') (n : H' p = none) (hb : p ≠ b) : ¬ Nw H b p := by
  rintro (h | ⟨o, h⟩)
  · exact hb h
  · rw [k p o hb h] at n
    cases n
theorem Kp.kq {b : Addr} {H H' : Hp} {N : Addr → Prop} (k : Kp b H H') (n : N b) : Kq N H H' := fun c o hc z => k c o (fun e => hc (e ▸ n)) z
theorem defAt {K : PySem.W.Frag} {mg : Str → Option Value} {x : Str} {st : Stmt} {ps : List Str} {f : Addr} {oc : Value} {od an : Option Addr} {osl : Array (Option Value)} {kV doc pm cdv ct : Value}
    (m : mg x = some (.ref f))
    (l : K.lookup f = some ⟨oc, od, .func (PySem.W.fnOf x x (defArgs st) (defBody st) (defScope st) .none kV doc pm an cdv ct), osl⟩)
    (c : PySem.W.codeIn K cdv x = true) (k : PySem.W.keepIn K (.ref f) = true)
    (b : ∀ (kV doc pm : Value) (an : Option Addr) (cdv ct : Value) (us : List Value), us.length = ps.length →
      bindArgs (PySem.W.fnOf x x (defArgs st) (defBody st) (defScope st) .none kV doc pm an cdv ct) ⟨us, []⟩ = pure (ps.zip us)) :
    DefAt K mg x st ps := by
  have F := fun_mk (st := st) l c k
  exact ⟨f, _, F, m, F.binds b⟩
end Gd
/-! An own error whose __init__ says super().__init__(a text), then keeps the one thing it is made of. -/
namespace Ge
open PySem PySem.W PySem.Calls PyProof.Rows PySem.HandSPX
def iA (p1 p2 : Pos) : Arguments := { posonlyargs := [], args := [{ arg := "self", annotation := none, pos := p1 }, { arg := "found", annotation := none, pos := p2 }], vararg := none, kwonlyargs := [], kw_defaults := [], kwarg := none, defaults := [] }
def iB (msg : Str) (kk : Nat) (p1 p2 p3 p4 p5 p6 q1 q2 q3 q4 : Pos) : List Stmt :=
  [.Expr (.Call (.Attribute (.Call (.Name "super" p1) [] [] p2) "__init__" p3) [.Constant (.str msg) kk p4] [] p5) p6,
   .Assign [.Attribute (.Name "self" q1) "found" q2] (.Name "found" q3) q4]
def iS : Scope := { kind := .function, names := [(PySem.Str.ofString "self", .local), (PySem.Str.ofString "found", .local), (PySem.Str.ofString "__class__", .free), (PySem.Str.ofString "super", .globalImplicit)], isGenerator := false, isCoroutine := false, more := [] }
/-- what the written part says of the class at C and of its __init__ at fI -/
structure ErrTxt (P : Program) (K : Frag) (C fI : Addr) (qn msg : Str) : Prop where
  cls : ∃ nm q N bs bm sn sub ab col dd k0 k1 k2 k3 k5, K.lookup C = some (excClassObj nm q C N bs bm true sn sub ab col dd k0 k1 k2 k3 k5 "ValueError.__new__") ∧ refsVE bm = true
  sa : findIn K (.ref C) "__setattr__" = some (some (.builtin "object.__setattr__"))
  ga : findIn K (.ref C) "__getattribute__" = some (some (.builtin "BaseException.__getattribute__"))
  gg : findIn K (.ref C) "__getattr__" = some none
  noN : findIn K (.ref C) "found" = some none
  iC : findIn K (.ref C) "__init__" = some (some (.ref fI))
  tC : typeIn K (.ref fI) = some (.type "function")
  kC : keepIn K (.ref C) = true
  exC : subIn K (.ref C) (.type "BaseException") = some true
  veC : subIn K (.ref C) (.type "ValueError") = some true
  tyC : typeIn K (.ref C) = some (.type "type")
  hdC : hasDictIn K C = true
  sub : mroIn K C (.ref C) = some true
  sup : ks_superIn K C C "__init__" = some (some (.builtin "ValueError.__init__"))
  op : nsIn K cStatics "thirdparty.any" = some none
  zs : nsIn K mainGlobals "super" = some none
  htop : (P.main.scope.names.lookup ("super" : Str)).isSome = false
  fn : ∃ (oc : Value) (od : Option Addr) (doc pm : Value) (an : Option Addr) (cda cc : Addr) (ct : Value) (osl : Array (Option Value)) (kk : Nat) (p1 p2 p3 p4 p5 p6 q1 q2 q3 q4 r1 r2 : Pos) (ccl cl : Value) (cdd cld : Option Addr) (vs : Array Value) (ccs csl : Array (Option Value)) (file : Str) (tf : Tok),
    K.lookup fI = some ⟨oc, od, .func (ksFn "__init__" qn (iA r1 r2) (iB msg kk p1 p2 p3 p4 p5 p6 q1 q2 q3 q4) iS .none .none doc pm an (.ref cda) ct cc), osl⟩ ∧ codeIn K (.ref cda) qn = true ∧
    K.lookup cda = some ⟨ccl, cdd, .fields vs, ccs⟩ ∧ vs[2]? = some (.str file tf) ∧ ((P.main.file : Str) == file) = true ∧
    K.lookup cc = some ⟨cl, cld, .cell (some (.ref C)), csl⟩ ∧ (p3.endLine == p5.line) = true
/-- what __init__ leaves of a fresh exception at x -/
structure InitEnd (h h' : Heap) (x C dx t1 : Addr) (v : Value) : Prop where
  keep : ∀ b o, b ≠ x → h.get? b = some o → h'.get? b = some o
  obj : h'.get? x = some { cls := .ref C, dict := some dx, data := .fields #[.ref t1, .none, .none, .none, .bool false, .none] }
  dbig : h.objs.size ≤ dx
  dne : dx ≠ x
  ns : h'.Ns1 dx (fun y => if y = "found" then some v else none)
theorem iS_nocell : ∀ y ∈ iS.names, y.2 ≠ .cell := by decide +kernel
theorem iS_loc (x v : Value) : ∀ y ∈ ([(PySem.Str.ofString "self", x), (PySem.Str.ofString "found", v)] : List (Str × Value)), iS.names.lookup y.1 = some .local := by
  intro y hy
  simp only [List.mem_cons, List.not_mem_nil, or_false] at hy
  rcases hy with rfl | rfl
  · exact (by decide +kernel : iS.names.lookup (PySem.Str.ofString "self") = some .local)
  · exact (by decide +kernel : iS.names.lookup (PySem.Str.ofString "found") = some .local)
/-- o.name(..) in a body that is known to run, the call's line told -/
theorem at_method {M : Model} {A : Around} {c : Code} {E : Value → Shared → Prop} {s : Shared} {env : Env} {o : Expr} {name : Str} {apos pos : Pos} {args : List Expr} {Q : Value → Shared → Prop}
    (hl : (apos.endLine == pos.line) = true) (hf : methodCallForm (args.length + ([] : List Keyword).length) (backTo pos (starEach args env)) (backToKw pos (keywordEach [] env)) = true)
    (h : _root_.PySem.wpAt M A c (attributeBase o name env (eval o env)) (fun ov s₁ => wpAny M A (getMethod ov name (do return (← importBound o env).getD true))
      (fun fx s₂ => wpAny M A (callWith pos fx.1 fx.2 (backTo pos (starEach args env)) (backToKw pos (keywordEach [] env))) Q E s₂) E s₁) E s) :
    _root_.PySem.wpAt M A c (eval (.Call (.Attribute o name apos) args [] pos) env) Q E s := by
  rw [arm_eval_Call]
  apply _root_.PySem.wpAt_bind
  apply _root_.PySem.wpAt_mono h
  · intro ov s₁ h₁
    apply _root_.PySem.wpAt_of_wpAny
    apply wpAny_bind
    apply wpAny_standAt
    have hp : methodCallPos true o env apos pos = pure pos := by
      unfold methodCallPos
      simp [hl]
    unfold methodCall
    rw [hf]
    apply wpAny_bind
    apply wpAny_holding
    apply wpAny_mono h₁
    · intro fx s₂ h₂
      exact wpAny_bind (wpAny_of_eq hp h₂)
    · intro _ _ z
      exact z
  · intro _ _ z
    exact z
section
variable {prog : Program} {w : World} {A : Around} {E : Value → Shared → Prop} {R : Result → Shared → Prop} {s : Shared} {K : Frag} {mg mb : Str → Option Value} {C fI : Addr} {qn msg : Str}
theorem sup_call {h : Heap} {g : Array GenState} {d : Drawn} {t : Nat} {os : OsState} {u e t0 : Addr} {one : Value} {Q : Value → Shared → Prop}
    {nm q : Str} {N : Addr} {bs bm sub : List Value} {sn : List Str} {ab : Bool} {col : Option Bool} {dd : Option Addr} {k0 k1 k2 k3 k5 : Option Value}
    (hC : h.get? C = some (excClassObj nm q C N bs bm true sn sub ab col dd k0 k1 k2 k3 k5 "ValueError.__new__")) (he : h.get? e = some (excO C t0)) (hu : h.get? u = some (kxs_mw "ValueError.__init__" e))
    (hq : ∀ h' t1, (∀ b o, b ≠ e → h.get? b = some o → h'.get? b = some o) → h'.get? e = some (excO C t1) → Q .none ⟨h', g, d, t, os⟩) :
    wpAny (model prog w) A (call (.ref u) [one]) Q E ⟨h, g, d, t, os⟩ := by
  refine wpAny_call (codeAny_of_tree (show wpAny _ (Around.in1 _) (callAny (.ref u) ⟨[one], []⟩) _ _ _ from ?_))
  have e1 : (Value.type "method-wrapper" == Value.type "method" || Value.type "method-wrapper" == Value.type "builtin_function_or_method" || Value.type "method-wrapper" == Value.type "method-wrapper") = true := by decide
  simp only [callAny]
  refine wpAny_bind (m := load u) (wpAny_load hu ?_)
  simp only [kxs_mw, e1, if_true]
  refine (KFB.if_so (by decide) (wpAny_bind (check_bound_init F.excBase_ValueError.toExcCallFacts hC he rfl ?_)))
  refine (wpAny_bind (wpAny_pure (wpAny_pure (And.intro (plainId_quiet F.excBase_ValueError.init.plain _) (codeAny_builtin F.excBase_ValueError.initEntry ?_)))))
  have lz : [one].length ≤ sizeLine := by
    rw [sizeLine_eq]
    exact (by decide : 1 ≤ 16777216)
  exact exc_init_tree (cls := .ref C) (t0 := t0) (dv := none) (c2 := .none) (c3 := .none) (b4 := .bool false) he lz (fun h₄ k₄ hx₄ _ => hq h₄ _ k₄ hx₄)
theorem err_init (T : ErrTxt prog K C fI qn msg) {x t0 : Addr} {v : Value} (X : K.In s.heap) (lim : s.heap.NoLimit) (gl : s.heap.Ns mainGlobals mg) (bl : s.heap.Ns builtinsNs mb)
    (bb : ∀ x : Str, x ≠ "__name__" → mb x = bootBuiltins x) (hx : s.heap.get? x = some (excO C t0)) (hnx : K.lookup x = none) (room : A.depth < recursionLimit)
    (hq : ∀ h' tk dx t1, InitEnd s.heap h' x C dx t1 v → R (.ok (.ret .none)) { s with heap := h', toks := tk }) :
    codeAny (model prog w) A (.call (.ref fI) ⟨[.ref x, v], []⟩) R s := by
  obtain ⟨oc, od, doc, pm, an, cda, cc, ct, osl, kk, p1, p2, p3, p4, p5, p6, q1, q2, q3, q4, r1, r2, ccl, cl, cdd, cld, vs, ccs, csl, file, tf, ho, hcd, hcode, hvs, hfile, hcell, hline⟩ := T.fn
  obtain ⟨nm, q, N, bs, bm, sn, sub, ab, col, dd, k0, k1, k2, k3, k5, hC, hbm⟩ := T.cls
  have hzs := mg_none_of X gl T.zs
  obtain ⟨hp, g, dr, tk, os⟩ := s
  refine ks_codeAny_call_defAt (binds := [("self", .ref x), ("found", v)]) room (X _ _ ho) rfl lim (codeRec_of X hcd) rfl (BindsTo.of_eq (by first | rfl | with_unfolding_all rfl)) iS_nocell (iS_loc _ _) (fun h₁ hns k₁ => ?_) rfl rfl rfl
  have X₁ : K.In h₁ := X.keeps k₁
  have hx₁ := k₁ _ _ hx
  refine ks_wpAt_execs_cons (ks_wpAt_Expr_any (at_method hline (by first | rfl | with_unfolding_all rfl) ?_))
  refine ks_wpAt_super_base rfl rfl (by decide) rfl (X₁ _ _ ho) rfl rfl rfl (X₁ _ _ hcode) rfl hvs hfile T.htop ?_
  refine ks_loadName_global rfl rfl (loadGlobal_builtin (gl.keeps k₁) hzs (bl.keeps k₁) ((bb _ (by decide +kernel)).trans (by decide +kernel : bootBuiltins "super" = some (.type "super"))) ⟨rfl, ?_⟩)
  refine wpAny_loadName_free rfl rfl rfl ⟨_, X₁ _ _ hcell, rfl⟩ ?_
  refine wpAny_loadName_local rfl rfl hns (v := .ref x) (by first | rfl | with_unfolding_all rfl) ?_
  refine ks_wpAny_isType_cls (X₁ _ _ hC) rfl ⟨rfl, ?_⟩
  refine ks_wpAny_call_super (X₁ _ _ hC) rfl hx₁ rfl (fun c e => nomatch e) (looks_mroIn X₁ T.sub) (fun h₂ e₂ k₂ => ?_)
  have X₂ : K.In h₂ := X₁.keeps k₂
  have hx₂ := k₂ _ _ hx₁
  have I₂ : InstAt h₂ x (excO C t0) C none := ⟨hx₂, rfl, rfl, trivial⟩
  have hcl : clsIn K C = some { name := nm, bases := bs, mro := .ref C :: bm, ns := N, qualname := q, hasDict := true, slotNames := sn, subclasses := sub, abstract := ab, collection := col, hasDel := false } := by
    unfold clsIn
    rw [hC]
    all_goals rfl
  have hm := T.sup
  unfold ks_superIn at hm
  rw [hcl] at hm
  have hI : Looks (model prog w) h₂ (isInstance (.ref x) (.type "ValueError")) true := I₂.type.andThen (looks_subIn X₂ T.veC)
  have hxC : x ≠ C := fun z => by
    rw [z, hC] at hnx
    cases hnx
  refine kxs_getMethod kxs_ValueError e₂ (looks_opaque X₂ T.op) (l₀ := .ref C :: bm) ?_ rfl X₂ hm hI hxC (by decide +kernel) ?_
  · exact fun A Q E s k q => wpAny_bind ((looks_clsIn X₂ hcl) A _ E s k (wpAny_pure q))
  have hu : (h₂.push (kxs_mw "ValueError.__init__" x)).get? h₂.objs.size = some (kxs_mw "ValueError.__init__" x) := Heap.get?_push_at rfl rfl
  have k₃ : ∀ b o, h₂.get? b = some o → (h₂.push (kxs_mw "ValueError.__init__" x)).get? b = some o := fun b o e => Heap.get?_push_of_some _ e
  have X₃ : K.In (h₂.push (kxs_mw "ValueError.__init__" x)) := X₂.keeps k₃
  have hx₃ := k₃ _ _ hx₂
  refine kxs_callWith (i := "ValueError.__init__") (x := x) (by rfl) (evalArgs_plain ?_)
  refine Calls.spliced_cons (Calls.Constant_str (k := kk) (pos := p4) ?_)
  refine Calls.spliced_nil ⟨hu, ?_⟩
  refine sup_call (X₃ _ _ hC) hx₃ hu (fun h₄ t1 k₄ hx₄ => ?_)
  -- self.found = found
  have X₄ : K.In h₄ := fun a o e => k₄ a o (fun z => by rw [z, hnx] at e; cases e) (X₃ a o e)
  have hLx : hp.objs.size ≠ x := Nat.ne_of_gt (Heap.lt_size hx)
  have hn₄ := hns
  obtain ⟨oL, es, ep, eL, rL⟩ := hn₄
  have hn₄ : h₄.Ns hp.objs.size _ := ⟨oL, es, ep, k₄ _ _ hLx (k₃ _ _ (k₂ _ _ eL)), rL⟩
  have big : hp.objs.size < h₄.objs.size := hn₄.lt
  show _root_.PySem.wpAt _ _ _ (execs _ _) _ _ _
  refine _root_.PySem.wpAt_of_wpAny (wpAny_execs_cons (plainObj_wpAny_Assign_Attribute ?_))
  refine wpAny_Name (wpAny_loadName_local rfl rfl hn₄ (v := v) (by first | rfl | with_unfolding_all rfl) ?_) (by decide)
  refine wpAny_Name (wpAny_loadName_local rfl rfl hn₄ (v := .ref x) (by first | rfl | with_unfolding_all rfl) ?_) (by decide)
  refine set_plain X₄ (ox := excO C t1) (od := none) ⟨hx₄, rfl, rfl, trivial⟩ T.sa ?_
  refine HandSPX.exc_osa X₄ hx₄ hcl (show refsVE (.ref C :: bm) = true from hbm) rfl T.noN (fun h₅ tk₅ dx k₅ dn dne hx₅ hn₅ => ?_)
  show wpAny _ _ (execs _ _) _ _ _
  exact wpAny_execs_nil (hq h₅ tk₅ dx t1 ⟨fun b o hb e => k₅ b o hb (k₄ b o hb (k₃ b o (k₂ b o (k₁ b o e)))), hx₅, Nat.le_trans (Nat.le_of_lt big) dn, dne, hn₅⟩)
/-- an error that was made: its own dict d holds the thing -/
structure OwnMade (h h' : Heap) (e C d : Addr) (v : Value) : Prop where
  keep : ∀ b o, h.get? b = some o → h'.get? b = some o
  new : h.objs.size ≤ e
  obj : ∃ oe vs, h'.get? e = some oe ∧ oe.cls = .ref C ∧ oe.dict = some d ∧ oe.data = .fields vs ∧ vs[1]? = some .none
  dbig : h.objs.size ≤ d
  dne : d ≠ e
  ns : h'.Ns1 d (fun y => if y = "found" then some v else none)
theorem one_size (v : Value) : [v].length ≤ sizeLine := by
  rw [sizeLine_eq]
  exact (by decide : 1 ≤ 16777216)
theorem err_made (T : ErrTxt prog K C fI qn msg) {v : Value} (X : K.In s.heap) (lim : s.heap.NoLimit) (gl : s.heap.Ns mainGlobals mg) (bl : s.heap.Ns builtinsNs mb)
    (bb : ∀ x : Str, x ≠ "__name__" → mb x = bootBuiltins x) (room : A.depth + 1 < recursionLimit)
    (hq : ∀ h' tk e d, OwnMade s.heap h' e C d v → R (.ok (.ret (.ref e))) { s with heap := h', toks := tk }) :
    codeAny (model prog w) A (.call (.ref C) ⟨[v], []⟩) R s := by
  obtain ⟨nm, q, N, bs, bm, sn, sub, ab, col, dd, k0, k1, k2, k3, k5, hC, hbm⟩ := T.cls
  obtain ⟨hp, g, dr, tk, os⟩ := s
  have k : ∀ b o, hp.get? b = some o → ((hp.push (kdv_tup [v])).push (excO C hp.objs.size)).get? b = some o := fun b o e => Heap.get?_push_of_some _ (Heap.get?_push_of_some _ e)
  have hget : ((hp.push (kdv_tup [v])).push (excO C hp.objs.size)).get? (hp.objs.size + 1) = some (excO C hp.objs.size) := by heap_get
  have hnx : K.lookup (hp.objs.size + 1) = none := by
    cases e : K.lookup (hp.objs.size + 1) with
    | none => rfl
    | some o =>
      have z : hp.get? (hp.objs.size + 1) = some o := X _ _ e
      exact absurd (Nat.lt_of_succ_lt (Heap.lt_size z)) (Nat.lt_irrefl _)
  refine HandSPX.call_own F.excBase_ValueError (fun X => refsVE_contains X bm hbm) (X _ _ hC) (looks_findIn X T.iC) (fun self => bind_fn X self T.tC) (one_size v) ?_
  refine err_init (s := ⟨(hp.push (kdv_tup [v])).push (excO C hp.objs.size), g, dr, tk, os⟩) T (X.keeps k) (lim.keeps k) (gl.keeps k) (bl.keeps k) bb hget hnx ?_ fun h' tk' dx t1 ⟨k', hx, dn, dne, hns⟩ => ?_
  · show A.depth + 1 < recursionLimit
    exact room
  · have old : ∀ b o, hp.get? b = some o → h'.get? b = some o := fun b o e => k' b o (Nat.ne_of_lt (Nat.lt_succ_of_lt (Heap.lt_size e))) (k b o e)
    have z : hp.objs.size + 1 + 1 ≤ dx := by
      first
        | (simpa only [Heap.size_push] using dn)
        | exact dn
        | (have q := dn; rw [Heap.size_push, Heap.size_push] at q; exact q)
    exact ⟨rfl, hq h' tk' (hp.objs.size + 1) dx ⟨old, Nat.le_succ _, ⟨_, _, hx, rfl, rfl, rfl, rfl⟩, Nat.le_trans (Nat.le_trans (Nat.le_succ _) (Nat.le_succ _)) z, dne, hns⟩⟩
end
end Ge
namespace Ge
open PySem PySem.Spec PyProof.Rows L2
theorem relO_f {v : V} {v' : Value} (r : RelV v v') (f : Str) : RelO (List.lookup f [(("found" : Str), v)]) (if f = "found" then some v' else none) := by
  by_cases hw : f = "found"
  · subst hw
    rw [if_pos rfl]
    have q : List.lookup ("found" : Str) [(("found" : Str), v)] = some v := by simp [List.lookup]
    rw [q]
    exact r
  · rw [if_neg hw]
    have qw : (f == ("found" : Str)) = false := by simpa using hw
    have q2 : List.lookup f [(("found" : Str), v)] = none := by simp [List.lookup, qw]
    rw [q2]
    trivial
section
variable {X : Cx} {C fI : Addr} {qn msg cn : Str}
/-- E(e) -/
def tMkE (C : Addr) (ta : TA) : L2.St → Hp → XK → Prop := fun σ H Q => ta σ H fun vs H1 => ∃ v, vs = [v] ∧ ∀ d, H1 d = none → Q (.ref C) (some d) (upd H1 d (.xd [(("found" : Str), v)]))
theorem pmk_err {a : Expr} {ta : TA} {p pos : Pos} {k : Nat} (T : ErrTxt X.prog X.K C fI qn msg) (gC : X.mg cn = some (.ref C)) (hr : Room k X.A) (ha : PA X [a] ta) (hg : Gl X cn)
    (hdb : (cn == ("__debug__" : Str)) = false := by decide)
    (he : starEach (a :: []) X.env = (false, eval a X.env) :: starEach [] X.env := by rfl) (hpl : (backTo pos (starEach [] X.env)).any (·.1) = false := by rfl) :
    PMk X (.Call (.Name cn p) [a] [] pos) (tMkE C ta) := by
  intro pins s σ H Q I h
  apply wpAny_Call_Name_kw
  apply ld_glob I hg gC (hd := hdb)
  refine PySem.W.callWith_K (h₀ := X.base) I.ok.mod.kin T.kC (thn (ha.run pos pins s σ H _ I h) ?_) he hpl
  rintro us s1 ⟨vs, H1, I1, r1, v, ev, q1⟩
  subst ev
  refine ⟨I1.kIn, ?_⟩
  cases r1 with
  | cons rv rn =>
    rename_i v' us'
    cases rn
    show wpAny _ _ (call (.ref C) [v']) _ _ _
    have hlim := I1.nolimit
    have hgl := I1.mod.glob.keeps I1.bk
    obtain ⟨mb, hbl0, hbb⟩ := I1.mod.blt
    have hbl := hbl0.keeps I1.bk
    obtain ⟨hp, g, dr, tk, os⟩ := s1
    refine wpAny_call (err_made T I1.kIn hlim hgl hbl hbb (by have := hr.dp; omega) fun h' tk' e d M => ?_)
    show MkP X pins σ Q (.ref e) ⟨h', g, dr, tk', os⟩
    obtain ⟨oe, fv, hoe, hc, hd, hdat, h1⟩ := M.obj
    have hns := M.ns
    obtain ⟨G', g1, g2⟩ := restrict h' fun b => decide (b ≠ e)
    have gk : ∀ b, b ≠ e → G'.get? b = h'.get? b := fun b hb => g1 b (decide_eq_true hb)
    have ge : G'.get? e = none := g2 e (by simp)
    have old : ∀ b o, hp.get? b = some o → G'.get? b = some o := fun b o q => (gk b (Nat.ne_of_lt (Nat.lt_of_lt_of_le (Heap.lt_size q) M.new))).trans (M.keep b o q)
    have ob : ObjOk X.prog X.w (upd H1 d (.xd [(("found" : Str), v)])) G' d (.xd [(("found" : Str), v)]) :=
      ⟨_, hns.at (fun o q => (gk d M.dne).trans q), fun f => relO_f rv f⟩
    have J : Inv X pins σ (upd H1 d (.xd [(("found" : Str), v)])) ⟨G', g, dr, tk', os⟩ := I1.laid (t' := tk') old M.dbig ob
    refine ⟨e, oe, fv, ⟨G', g, dr, tk', os⟩, _, .ref C, some d, rfl, J, fun b o q => ?_, ge, hoe, ⟨hc, hd⟩, hdat, h1, ?_, rfl, I1.bare, raises_own T.exC T.tyC, q1 d (I1.hok.fresh M.dbig)⟩
    · by_cases hb : b = e
      · have q' : G'.get? b = some o := q
        rw [hb, ge] at q'
        cases q'
      · exact (gk b hb).symm.trans q
    · rw [upd_ne (Ne.symm M.dne)]
      exact I1.hok.fresh M.new
/-- raise E(e) -/
def tRaiseE (C : Addr) (W : WX) (ta : TA) : TS := fun _ σ H => tMkE C ta σ H fun cls d H' => W cls d σ H'
theorem ps_raiseE {a : Expr} {ta : TA} {W : WX} {p pos pos2 : Pos} {k : Nat} (hc : X.calm = true) (T : ErrTxt X.prog X.K C fI qn msg) (gC : X.mg cn = some (.ref C)) (hr : Room k X.A) (tk : Takes X W) (ha : PA X [a] ta) (hg : Gl X cn)
    (hdb : (cn == ("__debug__" : Str)) = false := by decide)
    (he : starEach (a :: []) X.env = (false, eval a X.env) :: starEach [] X.env := by rfl) (hpl : (backTo pos (starEach [] X.env)).any (·.1) = false := by rfl) :
    PS X (.Raise (some (.Call (.Name cn p) [a] [] pos)) none pos2) (tRaiseE C W ta) := ps_raise hc tk (pmk_err T gC hr ha hg hdb he hpl)
/-- e.found, e the exception that the suite holds (at a; its class cls, its dict d) -/
def tFound (C : Addr) (a : Addr) (cls : Value) (d : Option Addr) (te : TE) : TE := fun σ H Q => te σ H fun x H1 => x = .ref a ∧ cls = .ref C ∧ ∃ (dd : Addr) (v : V), d = some dd ∧ H1 dd = some (.xd [(("found" : Str), v)]) ∧ Q v H1
theorem pe_found {a : Addr} {oe : Obj} {cls : Value} {d : Option Addr} {pn : List (Addr × Obj)} {e : Expr} {te : TE} {pos : Pos} (T : ErrTxt X.prog X.K C fI qn msg) (hz : Zc cls d oe) (hf : ∃ vs, oe.data = .fields vs) (he : PE (X.suite a ((a, oe) :: pn)) e te)
    (hb : attributeBase e "found" X.env (eval e X.env) = eval e X.env := by rfl) :
    PE (X.suite a ((a, oe) :: pn)) (.Attribute e "found" pos) (tFound C a cls d te) := by
  constructor
  intro pins s σ H Q I h
  refine attr_of hb (thn (he.run pins s σ H _ I h) ?_)
  rintro u s1 ⟨x, H1, I1, rx, ex, ec, dd, v, ed, ea, q⟩
  subst ex
  obtain rfl : u = Value.ref a := rx
  subst ec
  subst ed
  have ha := (I1.pin (a, oe) (List.mem_append_left _ List.mem_cons_self)).1
  obtain ⟨vs, hd⟩ := hf
  have hx : ObjOk X.prog X.w H1 s1.heap dd (.xd [(("found" : Str), v)]) := I1.hok dd _ ea
  obtain ⟨mA, hns, hr⟩ := hx
  obtain ⟨od, ho, hl⟩ := lookIn_ns hns
  have l : List.lookup ("found" : Str) [(("found" : Str), v)] = some v := by simp [List.lookup]
  obtain ⟨u, hu, ru⟩ := RelO.some_of (v := v) (o := mA "found") (by rw [← l]; exact hr "found")
  have J : PySem.W.InstAt s1.heap a oe C (some od) := by
    refine ⟨ha, hz.1, ?_, by rw [hz.2]; exact ho⟩
    unfold PySem.W.notCls
    rw [hd]
    all_goals rfl
  exact HandSPX.exc_get I1.kIn J T.ga T.gg T.exC (PySem.W.findObj_own T.hdC T.noN rfl (by rw [hl, hu])) (handed_of ru) ⟨v, H1, I1.tok _, ru, q⟩
/-- what a class of errors must say so that isinstance asks it -/
structure IsTxt (K : PySem.W.Frag) (C : Addr) : Prop where
  ha : PySem.W.findIn K (.ref C) "__class__" = some (some (.builtin "object.__class__"))
  hn : PySem.W.specialIn K (.builtin "object.__class__") "__get__" = some (some (.builtin "getset_descriptor.__get__"))
  ht : PySem.W.takesIn K (.builtin "object.__class__") = some true
  hm : PySem.W.mroIn K C (.type "object") = some true
/-- isinstance(e, c), e the exception that the suite holds, with its own dict -/
def rIsF (K : PySem.W.Frag) (C a : Addr) (cls : Value) (d : Option Addr) : List V → Hp → VK → Prop := fun xs H Q => ∃ (c : V) (cv : Value) (b : Bool) (dd : Addr) (v : V), xs = [.ref a, c] ∧ cls = .ref C ∧ d = some dd ∧
  H dd = some (.xd [(("found" : Str), v)]) ∧ ClsV c cv ∧ PySem.W.kitOne K (.ref C) cv = some b ∧ Q (.bl b) H
theorem call_isF {a : Addr} {oe : Obj} {cls : Value} {d : Option Addr} {pn : List (Addr × Obj)} (T : ErrTxt X.prog X.K C fI qn msg) (S : IsTxt X.K C) (hz : Zc cls d oe) (hf : ∃ vs, oe.data = .fields vs) :
    CallR (X.suite a ((a, oe) :: pn)) (.builtin "isinstance") (rIsF X.K C a cls d) := by
  intro pins s σ H xs us Q I r h
  obtain ⟨c, cv, b, dd, v, rfl, rfl, rfl, ea, hcv, e, q⟩ := h
  obtain ⟨u1, u2, rfl, r1, r2⟩ := vals2 r
  cases (show u1 = Value.ref a from r1)
  have e2 := hcv.eq r2
  subst e2
  have ha := (I.pin (a, oe) (List.mem_append_left _ List.mem_cons_self)).1
  obtain ⟨vs, hd⟩ := hf
  have hx : ObjOk X.prog X.w H s.heap dd (.xd [(("found" : Str), v)]) := I.hok dd _ ea
  obtain ⟨mA, hns, _⟩ := hx
  obtain ⟨od, ho, _⟩ := lookIn_ns hns
  have J : PySem.W.InstAt s.heap a oe C (some od) := by
    refine ⟨ha, hz.1, ?_, by rw [hz.2]; exact ho⟩
    unfold PySem.W.notCls
    rw [hd]
    all_goals rfl
  have hcl : (PySem.W.clsIn X.K C).isSome = true := by
    obtain ⟨cd, hc, _⟩ := PySem.W.any_some T.hdC
    rw [hc]
    rfl
  exact PySem.W.kia_one (PySem.W.kitx_exc hcl T.ga T.gg T.exC S.ha S.hn S.ht S.hm) I.kIn J e (fun z => nomatch z) fun tk => ⟨.bl b, H, I.kept (t' := tk) fun _ _ z => z, rfl, q⟩
end
end Ge
/-! An own error whose __init__ says super().__init__(a text), then keeps the one thing it is made of. -/
namespace Gc
open PySem PySem.W PySem.Calls PyProof.Rows PySem.HandSPX
def iA (p1 p2 : Pos) : Arguments := { posonlyargs := [], args := [{ arg := "self", annotation := none, pos := p1 }, { arg := "count", annotation := none, pos := p2 }], vararg := none, kwonlyargs := [], kw_defaults := [], kwarg := none, defaults := [] }
def iB (msg : Str) (kk : Nat) (p1 p2 p3 p4 p5 p6 q1 q2 q3 q4 : Pos) : List Stmt :=
  [.Expr (.Call (.Attribute (.Call (.Name "super" p1) [] [] p2) "__init__" p3) [.Constant (.str msg) kk p4] [] p5) p6,
   .Assign [.Attribute (.Name "self" q1) "count" q2] (.Name "count" q3) q4]
def iS : Scope := { kind := .function, names := [(PySem.Str.ofString "self", .local), (PySem.Str.ofString "count", .local), (PySem.Str.ofString "__class__", .free), (PySem.Str.ofString "super", .globalImplicit)], isGenerator := false, isCoroutine := false, more := [] }
/-- what the written part says of the class at C and of its __init__ at fI -/
structure ErrTxt (P : Program) (K : Frag) (C fI : Addr) (qn msg : Str) : Prop where
  cls : ∃ nm q N bs bm sn sub ab col dd k0 k1 k2 k3 k5, K.lookup C = some (excClassObj nm q C N bs bm true sn sub ab col dd k0 k1 k2 k3 k5 "ValueError.__new__") ∧ refsVE bm = true
  sa : findIn K (.ref C) "__setattr__" = some (some (.builtin "object.__setattr__"))
  ga : findIn K (.ref C) "__getattribute__" = some (some (.builtin "BaseException.__getattribute__"))
  gg : findIn K (.ref C) "__getattr__" = some none
  noN : findIn K (.ref C) "count" = some none
  iC : findIn K (.ref C) "__init__" = some (some (.ref fI))
  tC : typeIn K (.ref fI) = some (.type "function")
  kC : keepIn K (.ref C) = true
  exC : subIn K (.ref C) (.type "BaseException") = some true
  veC : subIn K (.ref C) (.type "ValueError") = some true
  tyC : typeIn K (.ref C) = some (.type "type")
  hdC : hasDictIn K C = true
  sub : mroIn K C (.ref C) = some true
  sup : ks_superIn K C C "__init__" = some (some (.builtin "ValueError.__init__"))
  op : nsIn K cStatics "thirdparty.any" = some none
  zs : nsIn K mainGlobals "super" = some none
  htop : (P.main.scope.names.lookup ("super" : Str)).isSome = false
  fn : ∃ (oc : Value) (od : Option Addr) (doc pm : Value) (an : Option Addr) (cda cc : Addr) (ct : Value) (osl : Array (Option Value)) (kk : Nat) (p1 p2 p3 p4 p5 p6 q1 q2 q3 q4 r1 r2 : Pos) (ccl cl : Value) (cdd cld : Option Addr) (vs : Array Value) (ccs csl : Array (Option Value)) (file : Str) (tf : Tok),
    K.lookup fI = some ⟨oc, od, .func (ksFn "__init__" qn (iA r1 r2) (iB msg kk p1 p2 p3 p4 p5 p6 q1 q2 q3 q4) iS .none .none doc pm an (.ref cda) ct cc), osl⟩ ∧ codeIn K (.ref cda) qn = true ∧
    K.lookup cda = some ⟨ccl, cdd, .fields vs, ccs⟩ ∧ vs[2]? = some (.str file tf) ∧ ((P.main.file : Str) == file) = true ∧
    K.lookup cc = some ⟨cl, cld, .cell (some (.ref C)), csl⟩ ∧ (p3.endLine == p5.line) = true
/-- what __init__ leaves of a fresh exception at x -/
structure InitEnd (h h' : Heap) (x C dx t1 : Addr) (v : Value) : Prop where
  keep : ∀ b o, b ≠ x → h.get? b = some o → h'.get? b = some o
  obj : h'.get? x = some { cls := .ref C, dict := some dx, data := .fields #[.ref t1, .none, .none, .none, .bool false, .none] }
  dbig : h.objs.size ≤ dx
  dne : dx ≠ x
  ns : h'.Ns1 dx (fun y => if y = "count" then some v else none)
theorem iS_nocell : ∀ y ∈ iS.names, y.2 ≠ .cell := by decide +kernel
theorem iS_loc (x v : Value) : ∀ y ∈ ([(PySem.Str.ofString "self", x), (PySem.Str.ofString "count", v)] : List (Str × Value)), iS.names.lookup y.1 = some .local := by
  intro y hy
  simp only [List.mem_cons, List.not_mem_nil, or_false] at hy
  rcases hy with rfl | rfl
  · exact (by decide +kernel : iS.names.lookup (PySem.Str.ofString "self") = some .local)
  · exact (by decide +kernel : iS.names.lookup (PySem.Str.ofString "count") = some .local)
/-- o.name(..) in a body that is known to run, the call's line told -/
theorem at_method {M : Model} {A : Around} {c : Code} {E : Value → Shared → Prop} {s : Shared} {env : Env} {o : Expr} {name : Str} {apos pos : Pos} {args : List Expr} {Q : Value → Shared → Prop}
    (hl : (apos.endLine == pos.line) = true) (hf : methodCallForm (args.length + ([] : List Keyword).length) (backTo pos (starEach args env)) (backToKw pos (keywordEach [] env)) = true)
    (h : _root_.PySem.wpAt M A c (attributeBase o name env (eval o env)) (fun ov s₁ => wpAny M A (getMethod ov name (do return (← importBound o env).getD true))
      (fun fx s₂ => wpAny M A (callWith pos fx.1 fx.2 (backTo pos (starEach args env)) (backToKw pos (keywordEach [] env))) Q E s₂) E s₁) E s) :
    _root_.PySem.wpAt M A c (eval (.Call (.Attribute o name apos) args [] pos) env) Q E s := by
  rw [arm_eval_Call]
  apply _root_.PySem.wpAt_bind
  apply _root_.PySem.wpAt_mono h
  · intro ov s₁ h₁
    apply _root_.PySem.wpAt_of_wpAny
    apply wpAny_bind
    apply wpAny_standAt
    have hp : methodCallPos true o env apos pos = pure pos := by
      unfold methodCallPos
      simp [hl]
    unfold methodCall
    rw [hf]
    apply wpAny_bind
    apply wpAny_holding
    apply wpAny_mono h₁
    · intro fx s₂ h₂
      exact wpAny_bind (wpAny_of_eq hp h₂)
    · intro _ _ z
      exact z
  · intro _ _ z
    exact z
section
variable {prog : Program} {w : World} {A : Around} {E : Value → Shared → Prop} {R : Result → Shared → Prop} {s : Shared} {K : Frag} {mg mb : Str → Option Value} {C fI : Addr} {qn msg : Str}
theorem sup_call {h : Heap} {g : Array GenState} {d : Drawn} {t : Nat} {os : OsState} {u e t0 : Addr} {one : Value} {Q : Value → Shared → Prop}
    {nm q : Str} {N : Addr} {bs bm sub : List Value} {sn : List Str} {ab : Bool} {col : Option Bool} {dd : Option Addr} {k0 k1 k2 k3 k5 : Option Value}
    (hC : h.get? C = some (excClassObj nm q C N bs bm true sn sub ab col dd k0 k1 k2 k3 k5 "ValueError.__new__")) (he : h.get? e = some (excO C t0)) (hu : h.get? u = some (kxs_mw "ValueError.__init__" e))
    (hq : ∀ h' t1, (∀ b o, b ≠ e → h.get? b = some o → h'.get? b = some o) → h'.get? e = some (excO C t1) → Q .none ⟨h', g, d, t, os⟩) :
    wpAny (model prog w) A (call (.ref u) [one]) Q E ⟨h, g, d, t, os⟩ := by
  refine wpAny_call (codeAny_of_tree (show wpAny _ (Around.in1 _) (callAny (.ref u) ⟨[one], []⟩) _ _ _ from ?_))
  have e1 : (Value.type "method-wrapper" == Value.type "method" || Value.type "method-wrapper" == Value.type "builtin_function_or_method" || Value.type "method-wrapper" == Value.type "method-wrapper") = true := by decide
  simp only [callAny]
  refine wpAny_bind (m := load u) (wpAny_load hu ?_)
  simp only [kxs_mw, e1, if_true]
  refine (KFB.if_so (by decide) (wpAny_bind (check_bound_init F.excBase_ValueError.toExcCallFacts hC he rfl ?_)))
  refine (wpAny_bind (wpAny_pure (wpAny_pure (And.intro (plainId_quiet F.excBase_ValueError.init.plain _) (codeAny_builtin F.excBase_ValueError.initEntry ?_)))))
  have lz : [one].length ≤ sizeLine := by
    rw [sizeLine_eq]
    exact (by decide : 1 ≤ 16777216)
  exact exc_init_tree (cls := .ref C) (t0 := t0) (dv := none) (c2 := .none) (c3 := .none) (b4 := .bool false) he lz (fun h₄ k₄ hx₄ _ => hq h₄ _ k₄ hx₄)
theorem err_init (T : ErrTxt prog K C fI qn msg) {x t0 : Addr} {v : Value} (X : K.In s.heap) (lim : s.heap.NoLimit) (gl : s.heap.Ns mainGlobals mg) (bl : s.heap.Ns builtinsNs mb)
    (bb : ∀ x : Str, x ≠ "__name__" → mb x = bootBuiltins x) (hx : s.heap.get? x = some (excO C t0)) (hnx : K.lookup x = none) (room : A.depth < recursionLimit)
    (hq : ∀ h' tk dx t1, InitEnd s.heap h' x C dx t1 v → R (.ok (.ret .none)) { s with heap := h', toks := tk }) :
    codeAny (model prog w) A (.call (.ref fI) ⟨[.ref x, v], []⟩) R s := by
  obtain ⟨oc, od, doc, pm, an, cda, cc, ct, osl, kk, p1, p2, p3, p4, p5, p6, q1, q2, q3, q4, r1, r2, ccl, cl, cdd, cld, vs, ccs, csl, file, tf, ho, hcd, hcode, hvs, hfile, hcell, hline⟩ := T.fn
  obtain ⟨nm, q, N, bs, bm, sn, sub, ab, col, dd, k0, k1, k2, k3, k5, hC, hbm⟩ := T.cls
  have hzs := mg_none_of X gl T.zs
  obtain ⟨hp, g, dr, tk, os⟩ := s
  refine ks_codeAny_call_defAt (binds := [("self", .ref x), ("count", v)]) room (X _ _ ho) rfl lim (codeRec_of X hcd) rfl (BindsTo.of_eq (by first | rfl | with_unfolding_all rfl)) iS_nocell (iS_loc _ _) (fun h₁ hns k₁ => ?_) rfl rfl rfl
  have X₁ : K.In h₁ := X.keeps k₁
  have hx₁ := k₁ _ _ hx
  refine ks_wpAt_execs_cons (ks_wpAt_Expr_any (at_method hline (by first | rfl | with_unfolding_all rfl) ?_))
  refine ks_wpAt_super_base rfl rfl (by decide) rfl (X₁ _ _ ho) rfl rfl rfl (X₁ _ _ hcode) rfl hvs hfile T.htop ?_
  refine ks_loadName_global rfl rfl (loadGlobal_builtin (gl.keeps k₁) hzs (bl.keeps k₁) ((bb _ (by decide +kernel)).trans (by decide +kernel : bootBuiltins "super" = some (.type "super"))) ⟨rfl, ?_⟩)
  refine wpAny_loadName_free rfl rfl rfl ⟨_, X₁ _ _ hcell, rfl⟩ ?_
  refine wpAny_loadName_local rfl rfl hns (v := .ref x) (by first | rfl | with_unfolding_all rfl) ?_
  refine ks_wpAny_isType_cls (X₁ _ _ hC) rfl ⟨rfl, ?_⟩
  refine ks_wpAny_call_super (X₁ _ _ hC) rfl hx₁ rfl (fun c e => nomatch e) (looks_mroIn X₁ T.sub) (fun h₂ e₂ k₂ => ?_)
  have X₂ : K.In h₂ := X₁.keeps k₂
  have hx₂ := k₂ _ _ hx₁
  have I₂ : InstAt h₂ x (excO C t0) C none := ⟨hx₂, rfl, rfl, trivial⟩
  have hcl : clsIn K C = some { name := nm, bases := bs, mro := .ref C :: bm, ns := N, qualname := q, hasDict := true, slotNames := sn, subclasses := sub, abstract := ab, collection := col, hasDel := false } := by
    unfold clsIn
    rw [hC]
    all_goals rfl
  have hm := T.sup
  unfold ks_superIn at hm
  rw [hcl] at hm
  have hI : Looks (model prog w) h₂ (isInstance (.ref x) (.type "ValueError")) true := I₂.type.andThen (looks_subIn X₂ T.veC)
  have hxC : x ≠ C := fun z => by
    rw [z, hC] at hnx
    cases hnx
  refine kxs_getMethod kxs_ValueError e₂ (looks_opaque X₂ T.op) (l₀ := .ref C :: bm) ?_ rfl X₂ hm hI hxC (by decide +kernel) ?_
  · exact fun A Q E s k q => wpAny_bind ((looks_clsIn X₂ hcl) A _ E s k (wpAny_pure q))
  have hu : (h₂.push (kxs_mw "ValueError.__init__" x)).get? h₂.objs.size = some (kxs_mw "ValueError.__init__" x) := Heap.get?_push_at rfl rfl
  have k₃ : ∀ b o, h₂.get? b = some o → (h₂.push (kxs_mw "ValueError.__init__" x)).get? b = some o := fun b o e => Heap.get?_push_of_some _ e
  have X₃ : K.In (h₂.push (kxs_mw "ValueError.__init__" x)) := X₂.keeps k₃
  have hx₃ := k₃ _ _ hx₂
  refine kxs_callWith (i := "ValueError.__init__") (x := x) (by rfl) (evalArgs_plain ?_)
  refine Calls.spliced_cons (Calls.Constant_str (k := kk) (pos := p4) ?_)
  refine Calls.spliced_nil ⟨hu, ?_⟩
  refine sup_call (X₃ _ _ hC) hx₃ hu (fun h₄ t1 k₄ hx₄ => ?_)
  -- self.found = found
  have X₄ : K.In h₄ := fun a o e => k₄ a o (fun z => by rw [z, hnx] at e; cases e) (X₃ a o e)
  have hLx : hp.objs.size ≠ x := Nat.ne_of_gt (Heap.lt_size hx)
  have hn₄ := hns
  obtain ⟨oL, es, ep, eL, rL⟩ := hn₄
  have hn₄ : h₄.Ns hp.objs.size _ := ⟨oL, es, ep, k₄ _ _ hLx (k₃ _ _ (k₂ _ _ eL)), rL⟩
  have big : hp.objs.size < h₄.objs.size := hn₄.lt
  show _root_.PySem.wpAt _ _ _ (execs _ _) _ _ _
  refine _root_.PySem.wpAt_of_wpAny (wpAny_execs_cons (plainObj_wpAny_Assign_Attribute ?_))
  refine wpAny_Name (wpAny_loadName_local rfl rfl hn₄ (v := v) (by first | rfl | with_unfolding_all rfl) ?_) (by decide)
  refine wpAny_Name (wpAny_loadName_local rfl rfl hn₄ (v := .ref x) (by first | rfl | with_unfolding_all rfl) ?_) (by decide)
  refine set_plain X₄ (ox := excO C t1) (od := none) ⟨hx₄, rfl, rfl, trivial⟩ T.sa ?_
  refine HandSPX.exc_osa X₄ hx₄ hcl (show refsVE (.ref C :: bm) = true from hbm) rfl T.noN (fun h₅ tk₅ dx k₅ dn dne hx₅ hn₅ => ?_)
  show wpAny _ _ (execs _ _) _ _ _
  exact wpAny_execs_nil (hq h₅ tk₅ dx t1 ⟨fun b o hb e => k₅ b o hb (k₄ b o hb (k₃ b o (k₂ b o (k₁ b o e)))), hx₅, Nat.le_trans (Nat.le_of_lt big) dn, dne, hn₅⟩)
/-- an error that was made: its own dict d holds the thing -/
structure OwnMade (h h' : Heap) (e C d : Addr) (v : Value) : Prop where
  keep : ∀ b o, h.get? b = some o → h'.get? b = some o
  new : h.objs.size ≤ e
  obj : ∃ oe vs, h'.get? e = some oe ∧ oe.cls = .ref C ∧ oe.dict = some d ∧ oe.data = .fields vs ∧ vs[1]? = some .none
  dbig : h.objs.size ≤ d
  dne : d ≠ e
  ns : h'.Ns1 d (fun y => if y = "count" then some v else none)
theorem one_size (v : Value) : [v].length ≤ sizeLine := by
  rw [sizeLine_eq]
  exact (by decide : 1 ≤ 16777216)
theorem err_made (T : ErrTxt prog K C fI qn msg) {v : Value} (X : K.In s.heap) (lim : s.heap.NoLimit) (gl : s.heap.Ns mainGlobals mg) (bl : s.heap.Ns builtinsNs mb)
    (bb : ∀ x : Str, x ≠ "__name__" → mb x = bootBuiltins x) (room : A.depth + 1 < recursionLimit)
    (hq : ∀ h' tk e d, OwnMade s.heap h' e C d v → R (.ok (.ret (.ref e))) { s with heap := h', toks := tk }) :
    codeAny (model prog w) A (.call (.ref C) ⟨[v], []⟩) R s := by
  obtain ⟨nm, q, N, bs, bm, sn, sub, ab, col, dd, k0, k1, k2, k3, k5, hC, hbm⟩ := T.cls
  obtain ⟨hp, g, dr, tk, os⟩ := s
  have k : ∀ b o, hp.get? b = some o → ((hp.push (kdv_tup [v])).push (excO C hp.objs.size)).get? b = some o := fun b o e => Heap.get?_push_of_some _ (Heap.get?_push_of_some _ e)
  have hget : ((hp.push (kdv_tup [v])).push (excO C hp.objs.size)).get? (hp.objs.size + 1) = some (excO C hp.objs.size) := by heap_get
  have hnx : K.lookup (hp.objs.size + 1) = none := by
    cases e : K.lookup (hp.objs.size + 1) with
    | none => rfl
    | some o =>
      have z : hp.get? (hp.objs.size + 1) = some o := X _ _ e
      exact absurd (Nat.lt_of_succ_lt (Heap.lt_size z)) (Nat.lt_irrefl _)
  refine HandSPX.call_own F.excBase_ValueError (fun X => refsVE_contains X bm hbm) (X _ _ hC) (looks_findIn X T.iC) (fun self => bind_fn X self T.tC) (one_size v) ?_
  refine err_init (s := ⟨(hp.push (kdv_tup [v])).push (excO C hp.objs.size), g, dr, tk, os⟩) T (X.keeps k) (lim.keeps k) (gl.keeps k) (bl.keeps k) bb hget hnx ?_ fun h' tk' dx t1 ⟨k', hx, dn, dne, hns⟩ => ?_
  · show A.depth + 1 < recursionLimit
    exact room
  · have old : ∀ b o, hp.get? b = some o → h'.get? b = some o := fun b o e => k' b o (Nat.ne_of_lt (Nat.lt_succ_of_lt (Heap.lt_size e))) (k b o e)
    have z : hp.objs.size + 1 + 1 ≤ dx := by
      first
        | (simpa only [Heap.size_push] using dn)
        | exact dn
        | (have q := dn; rw [Heap.size_push, Heap.size_push] at q; exact q)
    exact ⟨rfl, hq h' tk' (hp.objs.size + 1) dx ⟨old, Nat.le_succ _, ⟨_, _, hx, rfl, rfl, rfl, rfl⟩, Nat.le_trans (Nat.le_trans (Nat.le_succ _) (Nat.le_succ _)) z, dne, hns⟩⟩
end
end Gc
namespace Gc
open PySem PySem.Spec PyProof.Rows L2
theorem relO_f {v : V} {v' : Value} (r : RelV v v') (f : Str) : RelO (List.lookup f [(("count" : Str), v)]) (if f = "count" then some v' else none) := by
  by_cases hw : f = "count"
  · subst hw
    rw [if_pos rfl]
    have q : List.lookup ("count" : Str) [(("count" : Str), v)] = some v := by simp [List.lookup]
    rw [q]
    exact r
  · rw [if_neg hw]
    have qw : (f == ("count" : Str)) = false := by simpa using hw
    have q2 : List.lookup f [(("count" : Str), v)] = none := by simp [List.lookup, qw]
    rw [q2]
    trivial
section
variable {X : Cx} {C fI : Addr} {qn msg cn : Str}
/-- E(e) -/
def tMkE (C : Addr) (ta : TA) : L2.St → Hp → XK → Prop := fun σ H Q => ta σ H fun vs H1 => ∃ v, vs = [v] ∧ ∀ d, H1 d = none → Q (.ref C) (some d) (upd H1 d (.xd [(("count" : Str), v)]))
theorem pmk_err {a : Expr} {ta : TA} {p pos : Pos} {k : Nat} (T : ErrTxt X.prog X.K C fI qn msg) (gC : X.mg cn = some (.ref C)) (hr : Room k X.A) (ha : PA X [a] ta) (hg : Gl X cn)
    (hdb : (cn == ("__debug__" : Str)) = false := by decide)
    (he : starEach (a :: []) X.env = (false, eval a X.env) :: starEach [] X.env := by rfl) (hpl : (backTo pos (starEach [] X.env)).any (·.1) = false := by rfl) :
    PMk X (.Call (.Name cn p) [a] [] pos) (tMkE C ta) := by
  intro pins s σ H Q I h
  apply wpAny_Call_Name_kw
  apply ld_glob I hg gC (hd := hdb)
  refine PySem.W.callWith_K (h₀ := X.base) I.ok.mod.kin T.kC (thn (ha.run pos pins s σ H _ I h) ?_) he hpl
  rintro us s1 ⟨vs, H1, I1, r1, v, ev, q1⟩
  subst ev
  refine ⟨I1.kIn, ?_⟩
  cases r1 with
  | cons rv rn =>
    rename_i v' us'
    cases rn
    show wpAny _ _ (call (.ref C) [v']) _ _ _
    have hlim := I1.nolimit
    have hgl := I1.mod.glob.keeps I1.bk
    obtain ⟨mb, hbl0, hbb⟩ := I1.mod.blt
    have hbl := hbl0.keeps I1.bk
    obtain ⟨hp, g, dr, tk, os⟩ := s1
    refine wpAny_call (err_made T I1.kIn hlim hgl hbl hbb (by have := hr.dp; omega) fun h' tk' e d M => ?_)
    show MkP X pins σ Q (.ref e) ⟨h', g, dr, tk', os⟩
    obtain ⟨oe, fv, hoe, hc, hd, hdat, h1⟩ := M.obj
    have hns := M.ns
    obtain ⟨G', g1, g2⟩ := restrict h' fun b => decide (b ≠ e)
    have gk : ∀ b, b ≠ e → G'.get? b = h'.get? b := fun b hb => g1 b (decide_eq_true hb)
    have ge : G'.get? e = none := g2 e (by simp)
    have old : ∀ b o, hp.get? b = some o → G'.get? b = some o := fun b o q => (gk b (Nat.ne_of_lt (Nat.lt_of_lt_of_le (Heap.lt_size q) M.new))).trans (M.keep b o q)
    have ob : ObjOk X.prog X.w (upd H1 d (.xd [(("count" : Str), v)])) G' d (.xd [(("count" : Str), v)]) :=
      ⟨_, hns.at (fun o q => (gk d M.dne).trans q), fun f => relO_f rv f⟩
    have J : Inv X pins σ (upd H1 d (.xd [(("count" : Str), v)])) ⟨G', g, dr, tk', os⟩ := I1.laid (t' := tk') old M.dbig ob
    refine ⟨e, oe, fv, ⟨G', g, dr, tk', os⟩, _, .ref C, some d, rfl, J, fun b o q => ?_, ge, hoe, ⟨hc, hd⟩, hdat, h1, ?_, rfl, I1.bare, raises_own T.exC T.tyC, q1 d (I1.hok.fresh M.dbig)⟩
    · by_cases hb : b = e
      · have q' : G'.get? b = some o := q
        rw [hb, ge] at q'
        cases q'
      · exact (gk b hb).symm.trans q
    · rw [upd_ne (Ne.symm M.dne)]
      exact I1.hok.fresh M.new
/-- raise E(e) -/
def tRaiseE (C : Addr) (W : WX) (ta : TA) : TS := fun _ σ H => tMkE C ta σ H fun cls d H' => W cls d σ H'
theorem ps_raiseE {a : Expr} {ta : TA} {W : WX} {p pos pos2 : Pos} {k : Nat} (hc : X.calm = true) (T : ErrTxt X.prog X.K C fI qn msg) (gC : X.mg cn = some (.ref C)) (hr : Room k X.A) (tk : Takes X W) (ha : PA X [a] ta) (hg : Gl X cn)
    (hdb : (cn == ("__debug__" : Str)) = false := by decide)
    (he : starEach (a :: []) X.env = (false, eval a X.env) :: starEach [] X.env := by rfl) (hpl : (backTo pos (starEach [] X.env)).any (·.1) = false := by rfl) :
    PS X (.Raise (some (.Call (.Name cn p) [a] [] pos)) none pos2) (tRaiseE C W ta) := ps_raise hc tk (pmk_err T gC hr ha hg hdb he hpl)
/-- e.found, e the exception that the suite holds (at a; its class cls, its dict d) -/
def tFound (C : Addr) (a : Addr) (cls : Value) (d : Option Addr) (te : TE) : TE := fun σ H Q => te σ H fun x H1 => x = .ref a ∧ cls = .ref C ∧ ∃ (dd : Addr) (v : V), d = some dd ∧ H1 dd = some (.xd [(("count" : Str), v)]) ∧ Q v H1
theorem pe_found {a : Addr} {oe : Obj} {cls : Value} {d : Option Addr} {pn : List (Addr × Obj)} {e : Expr} {te : TE} {pos : Pos} (T : ErrTxt X.prog X.K C fI qn msg) (hz : Zc cls d oe) (hf : ∃ vs, oe.data = .fields vs) (he : PE (X.suite a ((a, oe) :: pn)) e te)
    (hb : attributeBase e "count" X.env (eval e X.env) = eval e X.env := by rfl) :
    PE (X.suite a ((a, oe) :: pn)) (.Attribute e "count" pos) (tFound C a cls d te) := by
  constructor
  intro pins s σ H Q I h
  refine attr_of hb (thn (he.run pins s σ H _ I h) ?_)
  rintro u s1 ⟨x, H1, I1, rx, ex, ec, dd, v, ed, ea, q⟩
  subst ex
  obtain rfl : u = Value.ref a := rx
  subst ec
  subst ed
  have ha := (I1.pin (a, oe) (List.mem_append_left _ List.mem_cons_self)).1
  obtain ⟨vs, hd⟩ := hf
  have hx : ObjOk X.prog X.w H1 s1.heap dd (.xd [(("count" : Str), v)]) := I1.hok dd _ ea
  obtain ⟨mA, hns, hr⟩ := hx
  obtain ⟨od, ho, hl⟩ := lookIn_ns hns
  have l : List.lookup ("count" : Str) [(("count" : Str), v)] = some v := by simp [List.lookup]
  obtain ⟨u, hu, ru⟩ := RelO.some_of (v := v) (o := mA "count") (by rw [← l]; exact hr "count")
  have J : PySem.W.InstAt s1.heap a oe C (some od) := by
    refine ⟨ha, hz.1, ?_, by rw [hz.2]; exact ho⟩
    unfold PySem.W.notCls
    rw [hd]
    all_goals rfl
  exact HandSPX.exc_get I1.kIn J T.ga T.gg T.exC (PySem.W.findObj_own T.hdC T.noN rfl (by rw [hl, hu])) (handed_of ru) ⟨v, H1, I1.tok _, ru, q⟩
/-- what a class of errors must say so that isinstance asks it -/
structure IsTxt (K : PySem.W.Frag) (C : Addr) : Prop where
  ha : PySem.W.findIn K (.ref C) "__class__" = some (some (.builtin "object.__class__"))
  hn : PySem.W.specialIn K (.builtin "object.__class__") "__get__" = some (some (.builtin "getset_descriptor.__get__"))
  ht : PySem.W.takesIn K (.builtin "object.__class__") = some true
  hm : PySem.W.mroIn K C (.type "object") = some true
/-- isinstance(e, c), e the exception that the suite holds, with its own dict -/
def rIsF (K : PySem.W.Frag) (C a : Addr) (cls : Value) (d : Option Addr) : List V → Hp → VK → Prop := fun xs H Q => ∃ (c : V) (cv : Value) (b : Bool) (dd : Addr) (v : V), xs = [.ref a, c] ∧ cls = .ref C ∧ d = some dd ∧
  H dd = some (.xd [(("count" : Str), v)]) ∧ ClsV c cv ∧ PySem.W.kitOne K (.ref C) cv = some b ∧ Q (.bl b) H
theorem call_isF {a : Addr} {oe : Obj} {cls : Value} {d : Option Addr} {pn : List (Addr × Obj)} (T : ErrTxt X.prog X.K C fI qn msg) (S : IsTxt X.K C) (hz : Zc cls d oe) (hf : ∃ vs, oe.data = .fields vs) :
    CallR (X.suite a ((a, oe) :: pn)) (.builtin "isinstance") (rIsF X.K C a cls d) := by
  intro pins s σ H xs us Q I r h
  obtain ⟨c, cv, b, dd, v, rfl, rfl, rfl, ea, hcv, e, q⟩ := h
  obtain ⟨u1, u2, rfl, r1, r2⟩ := vals2 r
  cases (show u1 = Value.ref a from r1)
  have e2 := hcv.eq r2
  subst e2
  have ha := (I.pin (a, oe) (List.mem_append_left _ List.mem_cons_self)).1
  obtain ⟨vs, hd⟩ := hf
  have hx : ObjOk X.prog X.w H s.heap dd (.xd [(("count" : Str), v)]) := I.hok dd _ ea
  obtain ⟨mA, hns, _⟩ := hx
  obtain ⟨od, ho, _⟩ := lookIn_ns hns
  have J : PySem.W.InstAt s.heap a oe C (some od) := by
    refine ⟨ha, hz.1, ?_, by rw [hz.2]; exact ho⟩
    unfold PySem.W.notCls
    rw [hd]
    all_goals rfl
  have hcl : (PySem.W.clsIn X.K C).isSome = true := by
    obtain ⟨cd, hc, _⟩ := PySem.W.any_some T.hdC
    rw [hc]
    rfl
  exact PySem.W.kia_one (PySem.W.kitx_exc hcl T.ga T.gg T.exC S.ha S.hn S.ht S.hm) I.kIn J e (fun z => nomatch z) fun tk => ⟨.bl b, H, I.kept (t' := tk) fun _ _ z => z, rfl, q⟩
end
end Gc
set_option maxHeartbeats 1000000
/-! isinstance of the exception that the suite holds, asked with a tuple of classes. -/
namespace Ge
open PySem PySem.Spec PyProof.Rows L2 Gd
def rIsFT (K : PySem.W.Frag) (C a : Addr) (cls : Value) (d : Option Addr) : List V → Hp → VK → Prop := fun xs H Q => ∃ (tp : Addr) (cs : List V) (ws : List Value) (b : Bool) (dd : Addr) (v : V), xs = [.ref a, .ref tp] ∧ cls = .ref C ∧ d = some dd ∧
  H dd = some (.xd [(("found" : Str), v)]) ∧ H tp = some (.tup cs) ∧ Paired ClsV cs ws ∧ PySem.W.kitAny K (.ref C) ws = some b ∧ Q (.bl b) H
section
variable {X : Cx} {C fI : Addr} {qn msg : Str}
theorem call_isFT {a : Addr} {oe : Obj} {cls : Value} {d : Option Addr} {pn : List (Addr × Obj)} (T : ErrTxt X.prog X.K C fI qn msg) (S : IsTxt X.K C) (hz : Zc cls d oe) (hf : ∃ vs, oe.data = .fields vs) :
    CallR (X.suite a ((a, oe) :: pn)) (.builtin "isinstance") (rIsFT X.K C a cls d) := by
  intro pins s σ H xs us Q I r h
  obtain ⟨tp, cs, ws, b, dd, v, rfl, rfl, rfl, ea, hT, k, e, q⟩ := h
  obtain ⟨u1, u2, rfl, r1, r2⟩ := vals2 r
  cases (show u1 = Value.ref a from r1)
  cases (show u2 = Value.ref tp from r2)
  have ha := (I.pin (a, oe) (List.mem_append_left _ List.mem_cons_self)).1
  obtain ⟨vs, hd⟩ := hf
  have hx : ObjOk X.prog X.w H s.heap dd (.xd [(("found" : Str), v)]) := I.hok dd _ ea
  obtain ⟨mA, hns, _⟩ := hx
  obtain ⟨od, ho, _⟩ := lookIn_ns hns
  have J : PySem.W.InstAt s.heap a oe C (some od) := by
    refine ⟨ha, hz.1, ?_, by rw [hz.2]; exact ho⟩
    unfold PySem.W.notCls
    rw [hd]
    all_goals rfl
  have hcl : (PySem.W.clsIn X.K C).isSome = true := by
    obtain ⟨cd, hc, _⟩ := PySem.W.any_some T.hdC
    rw [hc]
    rfl
  obtain ⟨_, its, rv, o, h1, h2, n, h3⟩ := (show ObjOk X.prog X.w H s.heap tp (.tup cs) from I.hok tp _ hT)
  have e3 := ClsV.all k rv
  subst e3
  obtain ⟨oc, od2, dt, sl⟩ := o
  simp only at h2 h3
  subst h2 h3
  exact PySem.W.kia_tup (PySem.W.kitx_exc hcl T.ga T.gg T.exC S.ha S.hn S.ht S.hm) I.kIn J h1 e (fun z => nomatch z) fun tk => ⟨.bl b, H, I.kept (t' := tk) fun _ _ z => z, rfl, q⟩
end
end Ge
namespace Gc
open PySem PySem.Spec PyProof.Rows L2 Gd
def rIsFT (K : PySem.W.Frag) (C a : Addr) (cls : Value) (d : Option Addr) : List V → Hp → VK → Prop := fun xs H Q => ∃ (tp : Addr) (cs : List V) (ws : List Value) (b : Bool) (dd : Addr) (v : V), xs = [.ref a, .ref tp] ∧ cls = .ref C ∧ d = some dd ∧
  H dd = some (.xd [(("count" : Str), v)]) ∧ H tp = some (.tup cs) ∧ Paired ClsV cs ws ∧ PySem.W.kitAny K (.ref C) ws = some b ∧ Q (.bl b) H
section
variable {X : Cx} {C fI : Addr} {qn msg : Str}
theorem call_isFT {a : Addr} {oe : Obj} {cls : Value} {d : Option Addr} {pn : List (Addr × Obj)} (T : ErrTxt X.prog X.K C fI qn msg) (S : IsTxt X.K C) (hz : Zc cls d oe) (hf : ∃ vs, oe.data = .fields vs) :
    CallR (X.suite a ((a, oe) :: pn)) (.builtin "isinstance") (rIsFT X.K C a cls d) := by
  intro pins s σ H xs us Q I r h
  obtain ⟨tp, cs, ws, b, dd, v, rfl, rfl, rfl, ea, hT, k, e, q⟩ := h
  obtain ⟨u1, u2, rfl, r1, r2⟩ := vals2 r
  cases (show u1 = Value.ref a from r1)
  cases (show u2 = Value.ref tp from r2)
  have ha := (I.pin (a, oe) (List.mem_append_left _ List.mem_cons_self)).1
  obtain ⟨vs, hd⟩ := hf
  have hx : ObjOk X.prog X.w H s.heap dd (.xd [(("count" : Str), v)]) := I.hok dd _ ea
  obtain ⟨mA, hns, _⟩ := hx
  obtain ⟨od, ho, _⟩ := lookIn_ns hns
  have J : PySem.W.InstAt s.heap a oe C (some od) := by
    refine ⟨ha, hz.1, ?_, by rw [hz.2]; exact ho⟩
    unfold PySem.W.notCls
    rw [hd]
    all_goals rfl
  have hcl : (PySem.W.clsIn X.K C).isSome = true := by
    obtain ⟨cd, hc, _⟩ := PySem.W.any_some T.hdC
    rw [hc]
    rfl
  obtain ⟨_, its, rv, o, h1, h2, n, h3⟩ := (show ObjOk X.prog X.w H s.heap tp (.tup cs) from I.hok tp _ hT)
  have e3 := ClsV.all k rv
  subst e3
  obtain ⟨oc, od2, dt, sl⟩ := o
  simp only at h2 h3
  subst h2 h3
  exact PySem.W.kia_tup (PySem.W.kitx_exc hcl T.ga T.gg T.exC S.ha S.hn S.ht S.hm) I.kIn J h1 e (fun z => nomatch z) fun tk => ⟨.bl b, H, I.kept (t' := tk) fun _ _ z => z, rfl, q⟩
end
end Gc
/-! Defs that raise, their promise kept where no repr is under way. -/
namespace Gd
open PySem PySem.Spec PyProof.Rows L2
structure CalX (P : Program) (w : World) (K : PySem.W.Frag) (mg : Str → Option Value) (base : Heap) (k : Nat) (x : Str) (sp : Sp) : Prop where
  ex : ∃ (f : Addr) (fd : FuncData) (ps : List Str), FnG P w K mg base (L2.CX P w) k f fd ps sp ∧ mg x = some (.ref f) ∧
    PySem.W.keepIn K (.ref f) = true ∧ Binds K fd ps []
section
variable {P : Program} {w : World} {K : PySem.W.Frag} {mg : Str → Option Value} {base : Heap}
theorem okGX {x qual : Str} {st : Stmt} {f : Addr} {fd : FuncData} {N ps : List Str} {k : Nat} {sp : Sp}
    (F : Fun K x qual st f fd) (S : FnScope N ps (defScope st))
    (ar : ∀ vs H Q E, sp vs H Q E → vs.length = ps.length)
    (bd : ∀ (cdv : Value) (A : Around) (outer : List Env) (s : Shared) (H : Hp) (vs : List V) (Q : VK) (E : XK),
      A.guards = some [] → Room k (A.deeper (envOfC qual (defScope st) s.heap.objs.size f cdv)) → sp vs H Q E →
      ∃ t, PSs (cxOf (L2.CX P w) P w K mg base N qual (defScope st) f cdv A outer s H E) (defBody st) t ∧
        t { nx := fun _ H' => Q .non H', rt := Q } (start N vs) H) :
    FnG P w K mg base (L2.CX P w) (k + 1) f fd ps sp := by
  obtain ⟨oc, od, kV, doc, pm, an, cdv, ct, osl, rfl, lk, cin⟩ := F.ex
  exact fnG_of lk cin S ar fun A outer s H vs Q E hG room prem => bd cdv A outer s H vs Q E hG room prem
theorem DefAt.calX {x : Str} {st : Stmt} {N ps : List Str} {k : Nat} {sp : Sp} (D : DefAt K mg x st ps) (S : FnScope N ps (defScope st))
    (ar : ∀ vs H Q E, sp vs H Q E → vs.length = ps.length)
    (bd : ∀ (f : Addr) (cdv : Value) (A : Around) (outer : List Env) (s : Shared) (H : Hp) (vs : List V) (Q : VK) (E : XK),
      A.guards = some [] → Room k (A.deeper (envOfC x (defScope st) s.heap.objs.size f cdv)) → sp vs H Q E →
      ∃ t, PSs (cxOf (L2.CX P w) P w K mg base N x (defScope st) f cdv A outer s H E) (defBody st) t ∧
        t { nx := fun _ H' => Q .non H', rt := Q } (start N vs) H) : CalX P w K mg base (k + 1) x sp := by
  obtain ⟨f, fd, F, m, b⟩ := D.ex
  exact ⟨f, fd, ps, okGX F S ar (bd f), m, F.kp, b⟩
end
section
variable {X : Cx} {k : Nat} {sp : Sp} {x : Str} {p pos : Pos} {e : Expr} {es : List Expr} {t : TA} {E : L2.St → XK}
theorem enterX {CX : CXT} {f : Addr} {fd : FuncData} {ps : List Str} {pins : List (Addr × Obj)} {σ : L2.St} {H : Hp} {s : Shared} {Q : VK} {us : List Value} {vs : List V} (F : FnG X.prog X.w X.K X.mg X.base CX k f fd ps sp) (hG : X.A.guards = some []) (hr : Room k X.A) (hb : Binds X.K fd ps []) (hx : PassesAt CX X σ (E σ))
    (I : Inv X pins σ H s) (r : Vals vs us) (h : sp vs H Q (E σ)) : wpAny (model X.prog X.w) X.A (call (.ref f) us) (EP X pins σ Q) X.xe s := by
  have hl : us.length = ps.length := r.length ▸ F.arity _ _ _ _ h
  have b := hb s us I.kIn (by rw [List.append_nil]; exact hl)
  rw [List.append_nil] at b
  apply wpAny_call
  apply codeAny_mono (F.go X.A X.stack s H ⟨us, []⟩ us vs Q (E σ) hG hr I.env0 b r h)
  intro r s' hq
  match r, hq with
  | .error e, hq => exact hx pins H s e s' I hq
  | .ok (.ret u), hq => exact I.after hq
  | .ok .next, hq => exact hq.elim
  | .ok .brk, hq => exact hq.elim
  | .ok .cont, hq => exact hq.elim
/-- f(e, ..) of a def that may raise, its promise kept where no repr is under way -/
theorem pe_gx {W : WX} (c : CalX X.prog X.w X.K X.mg X.base k x sp) (hG : X.A.guards = some []) (hr : Room k X.A) (hg : Gl X x) (tk : Takes X W)
    (ha : PA X (e :: es) t) (hdb : (x == ("__debug__" : Str)) = false := by decide)
    (he : starEach (e :: es) X.env = (false, eval e X.env) :: starEach es X.env := by rfl)
    (hpl : (backTo pos (starEach es X.env)).any (·.1) = false := by rfl) :
    PE X (.Call (.Name x p) (e :: es) [] pos) (tCallS sp (WE W) t) := by
  obtain ⟨f, fd, ps, F, m, kp, b⟩ := c.ex
  constructor
  intro pins s σ H Q J prem
  have arg := ha.run pos pins s σ H _ J prem
  apply wpAny_Call_Name_kw
  apply ld_glob J hg m (hd := hdb)
  apply PySem.W.callWith_K (h₀ := X.base) J.ok.mod.kin kp (he := he) (hplain := hpl)
  apply thn arg
  rintro us s1 ⟨vs, H1, J1, rel, q⟩
  exact ⟨J1.kIn, enterX (E := WE W) F hG hr b (passAt tk σ) J1 rel q⟩
/-- the same, where it raises nothing -/
theorem pe_gN (c : CalX X.prog X.w X.K X.mg X.base k x sp) (hG : X.A.guards = some []) (hr : Room k X.A) (hg : Gl X x)
    (ha : PA X (e :: es) t) (hdb : (x == ("__debug__" : Str)) = false := by decide)
    (he : starEach (e :: es) X.env = (false, eval e X.env) :: starEach es X.env := by rfl)
    (hpl : (backTo pos (starEach es X.env)).any (·.1) = false := by rfl) :
    PE X (.Call (.Name x p) (e :: es) [] pos) (tCall sp [] E0 t) := by
  obtain ⟨f, fd, ps, F, m, kp, b⟩ := c.ex
  exact pe_callG F hG hr hg m kp b .nil passL ha hdb he hpl
end
end Gd
/-! A method whose body begins with a call of super().m(..), an own class's, the method that it finds a def that keeps its promise. -/
namespace Gs
open PySem PySem.Spec PyProof.Rows L2 Gd NdefX
open PySem.Calls
open PySem.W (Frag ksFn ks_superIn ks_loadName_global looks_mroIn looks_opaque looks_clsIn clsIn)
/-- what the written part says of the def F at f, of class D, and of super().m in it, g above D as seen from C -/
structure SupTxt (P : Program) (K : Frag) (C D f g cc : Addr) (F : NF) (m : Str) : Prop where
  fn : ∃ (oc : Value) (od : Option Addr) (doc pm : Value) (an : Option Addr) (ct : Value) (osl : Array (Option Value)),
    K.lookup f = some ⟨oc, od, .func (ksFn F.name F.qual F.params F.body F.scope .none .none doc pm an (.ref F.c) ct cc), osl⟩
  cl : F.cl = [(("__class__" : Str), cc)]
  code : PySem.W.codeIn K (.ref F.c) F.qual = true
  cod : ∃ (ccl : Value) (cdd : Option Addr) (vs : Array Value) (ccs : Array (Option Value)) (file : Str) (tf : Tok),
    K.lookup F.c = some ⟨ccl, cdd, .fields vs, ccs⟩ ∧ vs[2]? = some (.str file tf) ∧ ((P.main.file : Str) == file) = true
  cell : ∃ (cv : Value) (cd : Option Addr) (csl : Array (Option Value)), K.lookup cc = some ⟨cv, cd, .cell (some (.ref D)), csl⟩
  isD : ∃ cd, clsIn K D = some cd
  sub : PySem.W.mroIn K C (.ref D) = some true
  sup : ks_superIn K C D m = some (some (.ref g))
  ty : PySem.W.typeIn K (.ref g) = some (.type "function")
  fg : PySem.W.fnIn K g = true
  op : PySem.W.nsIn K cStatics "thirdparty.any" = some none
  zs : PySem.W.nsIn K mainGlobals "super" = some none
  htop : (P.main.scope.names.lookup ("super" : Str)).isSome = false
  hm : (m == ("__class__" : Str)) = false
  hks : F.scope.names.lookup ("super" : Str) = some .globalImplicit
  hkc : F.scope.names.lookup ("__class__" : Str) = some .free
  hself : F.scope.names.lookup ("self" : Str) = some .local
  arg : ∃ ar, (F.params.posonlyargs ++ F.params.args).head? = some ar ∧ ar.arg = "self"
section
variable {CX : CXT} {P : Program} {w : World} {K : Frag} {mg : Str → Option Value} {base : Heap} {N : List Str} {F : NF} {f g C D cc : Addr} {A : Around} {outer : List Env} {s0 : Shared} {H0 : Hp} {E0 : XK} {m : Str}
theorem at_super {body : List Stmt} {p0 p1 apos pos : Pos} {args : List Expr} {s : Shared} {pins : List (Addr × Obj)} {σ : L2.St} {H : Hp} {x dx : Addr} {fs : List (Str × V)} {Q : Value → Shared → Prop}
    (T : SupTxt P K C D f g cc F m) (hline : (apos.endLine == pos.line) = true)
    (hform : methodCallForm (args.length + ([] : List Keyword).length) (backTo pos (starEach args (envF F f s0.heap.objs.size))) (backToKw pos (keywordEach [] (envF F f s0.heap.objs.size))) = true)
    (I : Inv (ncx CX P w K mg base N F f A outer s0 H0 E0) pins σ H s) (hN : N[0]? = some ("self" : Str)) (hσ : σ[0]? = some (some (.ref x))) (hx : H x = some (.ins C dx fs))
    (h : ∀ (q : Addr) (s' : Shared), Inv (ncx CX P w K mg base N F f A outer s0 H0 E0) (pins ++ [(q, PySem.W.methodObj (.ref g) (.ref x))]) σ H s' →
      wpAny (model P w) (ncx CX P w K mg base N F f A outer s0 H0 E0).A (callWith pos (.ref q) [] (backTo pos (starEach args (envF F f s0.heap.objs.size))) (backToKw pos (keywordEach [] (envF F f s0.heap.objs.size)))) Q (ncx CX P w K mg base N F f A outer s0 H0 E0).xe s') :
    _root_.PySem.wpAt (model P w) (ncx CX P w K mg base N F f A outer s0 H0 E0).A (.func body (envF F f s0.heap.objs.size))
      (eval (.Call (.Attribute (.Call (.Name "super" p0) [] [] p1) m apos) args [] pos) (envF F f s0.heap.objs.size)) Q (ncx CX P w K mg base N F f A outer s0 H0 E0).xe s := by
  obtain ⟨oc, od, doc, pm, an, ct, osl, hf⟩ := T.fn
  obtain ⟨ccl, cdd, vs, ccs, file, tf, hcode, hvs, hfile⟩ := T.cod
  obtain ⟨cv, cd0, csl, hcell⟩ := T.cell
  obtain ⟨ar, harg, hself⟩ := T.arg
  obtain ⟨cdD, hD⟩ := T.isD
  have X := I.kIn
  obtain ⟨mb, hbl0, hbb⟩ := I.mod.blt
  have hgl := I.mod.glob.keeps I.bk
  have hbl := hbl0.keeps I.bk
  have hzs := PySem.W.mg_none_of I.mod.kin I.mod.glob T.zs
  obtain ⟨mA, O, _⟩ := ins_get I.hok hx
  obtain ⟨ml, hns, look⟩ := I.loc
  refine Ge.at_method hline hform ?_
  refine ks_wpAt_super_base T.hks T.hkc T.hm rfl (X _ _ hf) rfl harg rfl (X _ _ hcode) rfl hvs hfile T.htop ?_
  refine ks_loadName_global I.ok.kind T.hks (loadGlobal_builtin hgl hzs hbl ((hbb _ (by decide +kernel)).trans (by decide +kernel : bootBuiltins "super" = some (.type "super"))) ⟨rfl, ?_⟩)
  refine wpAny_loadName_free I.ok.kind T.hkc (by show F.cl.lookup _ = _; rw [T.cl]; rfl) ⟨_, X _ _ hcell, rfl⟩ ?_
  have eS : (ncx CX P w K mg base N F f A outer s0 H0 E0).env.scope.names.lookup ("self" : Str) = some .local := T.hself
  obtain ⟨u, ru, lk⟩ := look 0 ("self" : Str) (.ref x) hN hσ (.inl eS)
  have hml : ml ("self" : Str) = some (.ref x) := by
    rcases lk with ⟨_, z⟩ | ⟨z, _⟩
    · rw [z]
      exact congrArg some ru
    · rcases z with z | z
      · have : some NameKind.local = some NameKind.cell := eS.symm.trans z
        cases this
      · have : some NameKind.local = some NameKind.free := eS.symm.trans z
        cases this
  refine wpAny_loadName_local I.ok.kind (by rw [hself]; exact T.hself) hns (v := .ref x) (by rw [hself]; exact hml) ?_
  obtain ⟨oD, hD1, hD2⟩ : ∃ oD, s.heap.get? D = some oD ∧ oD.data = .cls cdD := by
    unfold clsIn at hD
    split at hD
    · rename_i c d cd' sl ho
      cases hD
      exact ⟨_, X _ _ ho, rfl⟩
    · cases hD
  refine ks_wpAny_isType_cls hD1 hD2 ⟨rfl, ?_⟩
  obtain ⟨hp, gs, dr, tk, os⟩ := s
  refine ks_wpAny_call_super hD1 hD2 O.obj rfl (fun c e => nomatch e) (looks_mroIn X T.sub) (fun h₂ e₂ k₂ => ?_)
  have J2 : Inv (ncx CX P w K mg base N F f A outer s0 H0 E0) pins σ H ⟨h₂, gs, dr, tk, os⟩ := I.kept (t' := tk) k₂
  have X₂ := J2.kIn
  have hsup := T.sup
  cases hc : clsIn K C with
  | none =>
    unfold ks_superIn at hsup
    rw [hc] at hsup
    cases hsup
  | some cd =>
    unfold ks_superIn at hsup
    rw [hc] at hsup
    obtain ⟨of, hof, hofc⟩ : ∃ of, h₂.get? g = some of ∧ of.cls = .type "function" := by
      have ht := T.ty
      have ht' : (K.lookup g).map (·.cls) = some (.type "function") := ht
      cases z : K.lookup g with
      | none =>
        rw [z] at ht'
        cases ht'
      | some of =>
        rw [z] at ht'
        exact ⟨of, X₂ _ _ z, Option.some.inj ht'⟩
    have hxC : x ≠ C := fun e => by
      unfold clsIn at hc
      cases z : K.lookup C with
      | none =>
        rw [z] at hc
        cases hc
      | some oC =>
        have hb := I.mod.kin _ _ z
        have := (I.bs C oC hb).2
        rw [← e, hx] at this
        cases this
    refine ks_wpAny_getMethod_super e₂ (looks_opaque X₂ T.op) (l₀ := cd.mro) ?_ rfl X₂ hsup hof hofc hxC T.hm ?_
    · exact fun A Q E s k q => wpAny_bind ((looks_clsIn X₂ hc) A _ E s k (wpAny_pure q))
    · have k₃ : ∀ b o, h₂.get? b = some o → (h₂.push (PySem.W.methodObj (.ref g) (.ref x))).get? b = some o := fun b o e => Heap.get?_push_of_some _ e
      have J3 : Inv (ncx CX P w K mg base N F f A outer s0 H0 E0) pins σ H ⟨h₂.push (PySem.W.methodObj (.ref g) (.ref x)), gs, dr, tk + 1, os⟩ := J2.kept (t' := tk + 1) k₃
      refine h h₂.objs.size _ (J3.pins_of fun p hp => ?_)
      rcases List.mem_append.mp hp with hp | hp
      · exact J3.pin p (List.mem_append_right _ hp)
      · rw [List.mem_singleton.mp hp]
        refine ⟨Heap.get?_push_at rfl rfl, J2.hok.fresh (Nat.le_refl _), Nat.ne_of_gt J2.lt, J2.nofs (Nat.le_refl _), fun v e => nomatch e⟩
/-- a call of the found method, its self bound -/
theorem run_bound {X : Cx} {CX2 : CXT} {k : Nat} {g q x : Addr} {fd : FuncData} {ps : List Str} {sp : Sp} {E : XK} {pins : List (Addr × Obj)} {σ : L2.St} {H : Hp} {s : Shared} {Q : VK} {us : List Value} {vs : List V}
    (G : FnOk X.prog X.w X.K X.mg X.base CX2 k g fd ps sp) (hr : Room k X.A) (hb : Binds X.K fd ps []) (hx : Passes CX2 X E) (I : Inv X pins σ H s)
    (hq : s.heap.get? q = some (PySem.W.methodObj (.ref g) (.ref x))) (r : Vals vs us) (h : sp (.ref x :: vs) H Q E) :
    wpAny (model X.prog X.w) X.A (call (.ref q) us) (EP X pins σ Q) X.xe s := by
  have r2 : Vals (.ref x :: vs) (.ref x :: us) := .cons rfl r
  have long : (Value.ref x :: us).length = ps.length := r2.length ▸ G.len _ _ _ _ h
  have b := hb s (.ref x :: us) I.kIn (by rw [List.append_nil]; exact long)
  rw [List.append_nil] at b
  apply wpAny_call
  apply ks_codeAny_call_bound hq
  apply codeAny_mono (G.run X.A X.stack s H ⟨.ref x :: us, []⟩ (.ref x :: us) (.ref x :: vs) Q E hr I.env0 b r2 h)
  intro r s' hs
  match r, hs with
  | .error _, hs => exact hx pins σ H s _ s' I hs
  | .ok (.ret _), hs => exact I.after hs
  | .ok .next, hs => exact hs.elim
  | .ok .brk, hs => exact hs.elim
  | .ok .cont, hs => exact hs.elim
/-- super().m(e, ..) as a value -/
theorem eval_super {CX2 : CXT} {k : Nat} {fd : FuncData} {ps : List Str} {sp : Sp} {E : XK} {body : List Stmt} {p0 p1 apos pos : Pos} {e : Expr} {es : List Expr} {ta : TA} {s : Shared} {pins : List (Addr × Obj)} {σ : L2.St} {H : Hp} {x dx : Addr} {fs : List (Str × V)} {Q : VK}
    (T : SupTxt P K C D f g cc F m) (hline : (apos.endLine == pos.line) = true)
    (hform : methodCallForm ((e :: es).length + ([] : List Keyword).length) (backTo pos (starEach (e :: es) (envF F f s0.heap.objs.size))) (backToKw pos (keywordEach [] (envF F f s0.heap.objs.size))) = true)
    (I : Inv (ncx CX P w K mg base N F f A outer s0 H0 E0) pins σ H s) (hN : N[0]? = some ("self" : Str)) (hσ : σ[0]? = some (some (.ref x))) (hx : H x = some (.ins C dx fs))
    (G : FnOk P w K mg base CX2 k g fd ps sp) (hr : Room k (ncx CX P w K mg base N F f A outer s0 H0 E0).A) (hb : Binds K fd ps []) (hp : Passes CX2 (ncx CX P w K mg base N F f A outer s0 H0 E0) E)
    (ha : PA (ncx CX P w K mg base N F f A outer s0 H0 E0) (e :: es) ta)
    (he : starEach (e :: es) (envF F f s0.heap.objs.size) = (false, eval e (envF F f s0.heap.objs.size)) :: starEach es (envF F f s0.heap.objs.size))
    (hpl : (backTo pos (starEach es (envF F f s0.heap.objs.size))).any (·.1) = false)
    (h : ta σ H fun vs H1 => sp (.ref x :: vs) H1 Q E) :
    _root_.PySem.wpAt (model P w) (ncx CX P w K mg base N F f A outer s0 H0 E0).A (.func body (envF F f s0.heap.objs.size))
      (eval (.Call (.Attribute (.Call (.Name "super" p0) [] [] p1) m apos) (e :: es) [] pos) (envF F f s0.heap.objs.size)) (EP (ncx CX P w K mg base N F f A outer s0 H0 E0) pins σ Q) (ncx CX P w K mg base N F f A outer s0 H0 E0).xe s := by
  refine at_super T hline hform I hN hσ hx fun q s' J => ?_
  have run := ha.run pos _ s' σ H _ J h
  rw [show starEach (e :: es) (envF F f s0.heap.objs.size) = _ from he]
  rw [show starEach (e :: es) (ncx CX P w K mg base N F f A outer s0 H0 E0).env = _ from he] at run
  apply PySem.W.callWith_of (P := PySem.W.MethP K q g (.ref x)) (by show ((false || (backTo pos (starEach es _)).any (·.1)) || false) = false; rw [hpl]; rfl) (PySem.W.keeps_M T.fg)
  apply evalArgs_plain
  apply thn run
  rintro us s1 ⟨vs, H1, J1, rel, q1⟩
  have hq := (J1.pin (q, PySem.W.methodObj (.ref g) (.ref x)) (List.mem_append_right _ (List.mem_append_right _ List.mem_cons_self))).1
  refine ⟨⟨hq, J1.kIn⟩, ?_⟩
  refine wpAny_mono (run_bound (pins := pins ++ [(q, PySem.W.methodObj (.ref g) (.ref x))]) G hr hb hp J1 hq rel q1) (fun v s2 hv => ?_) fun _ _ z => z
  obtain ⟨y, H2, J2, ry, qy⟩ := hv
  exact ⟨y, H2, J2.pins_of fun p hp => J2.pin p (List.mem_append_right _ (List.mem_append_left _ hp)), ry, qy⟩
theorem cells_at (T : SupTxt P K C D f g cc F m) (e0 : Env0 P w K mg base A outer s0 H0) : CellsAt F.cl ["__class__"] [some (.ref D)] s0.heap H0 := by
  obtain ⟨cv, cd0, csl, hcell⟩ := T.cell
  have hb := e0.mod.kin _ _ hcell
  obtain ⟨h1, h2⟩ := e0.bs _ _ hb
  have hl : ∀ y c, F.cl.lookup y = some c → y = ("__class__" : Str) ∧ c = cc := fun y c z => by
    rw [T.cl] at z
    by_cases e : y = ("__class__" : Str)
    · subst e
      refine ⟨rfl, ?_⟩
      simpa [List.lookup] using z.symm
    · have e2 : (y == ("__class__" : Str)) = false := by simpa using e
      simp [List.lookup, e2] at z
  refine ⟨rfl, fun y c z => ?_, fun a b c z1 z2 => (hl a c z1).1.trans (hl b c z2).1.symm, fun i y z => ?_⟩
  · rw [(hl y c z).2]
    exact ⟨h2, _, _, h1, rfl⟩
  · cases i with
    | zero =>
      cases (show some ("__class__" : Str) = some y from z)
      refine ⟨cc, by rw [T.cl]; simp [List.lookup], fun v ev => ?_⟩
      cases (show some (some (V.ref D)) = some (some v) from ev)
      exact ⟨.ref D, rfl, _, h1, rfl⟩
    | succ n => cases z
/-- a def y = super().m(e, ..); .. keeps its promise -/
theorem okS_set {CX2 : CXT} {k i : Nat} {fd2 : FuncData} {ps ps2 : List Str} {sp sp2 : Sp} {p0 p1 apos pos py pst : Pos} {e : Expr} {es : List Expr} {st : List Stmt} {y : Str}
    {oc : Value} {od : Option Addr} {doc pm : Value} {an : Option Addr} {ct : Value} {osl : Array (Option Value)}
    (T : SupTxt P K C D f g cc F m) (hf : K.lookup f = some ⟨oc, od, .func (ksFn F.name F.qual F.params F.body F.scope .none .none doc pm an (.ref F.c) ct cc), osl⟩)
    (S : NScope N ps ["__class__"] F.scope)
    (hbd : F.body = .Assign [.Name y py] (.Call (.Attribute (.Call (.Name "super" p0) [] [] p1) m apos) (e :: es) [] pos) pst :: st)
    (ar : ∀ vs H Q E, sp vs H Q E → vs.length = ps.length) (hN : N[0]? = some ("self" : Str)) (hi : N[i]? = some y) (hy : F.scope.names.lookup y = some .local)
    (G : FnOk P w K mg base CX2 k g fd2 ps2 sp2) (hb2 : Binds K fd2 ps2 [])
    (hline : (apos.endLine == pos.line) = true)
    (hform : ∀ L, methodCallForm ((e :: es).length + ([] : List Keyword).length) (backTo pos (starEach (e :: es) (envF F f L))) (backToKw pos (keywordEach [] (envF F f L))) = true)
    (he : ∀ L, starEach (e :: es) (envF F f L) = (false, eval e (envF F f L)) :: starEach es (envF F f L))
    (hpl : ∀ L, (backTo pos (starEach es (envF F f L))).any (·.1) = false)
    (hsw : ∀ L, swapsWith (.Call (.Attribute (.Call (.Name "super" p0) [] [] p1) m apos) (e :: es) [] pos) (some (.Name y py)) pst.line (envF F f L) = pure false)
    (bd : ∀ (A : Around) (outer : List Env) (s : Shared) (H : Hp) (vs : List V) (Q : VK) (E : XK), Room k (A.deeper (envF F f s.heap.objs.size)) → sp vs H Q E →
      ∃ (x dx : Addr) (fs : List (Str × V)) (E2 : XK) (ta : TA) (tr : TS), (startF N vs [some (.ref D)])[0]? = some (some (.ref x)) ∧ H x = some (.ins C dx fs) ∧ Passes CX2 (ncx CX P w K mg base N F f A outer s H E) E2 ∧
        PA (ncx CX P w K mg base N F f A outer s H E) (e :: es) ta ∧ PSs (ncx CX P w K mg base N F f A outer s H E) st tr ∧
        ta (startF N vs [some (.ref D)]) H fun ws H1 => sp2 (.ref x :: ws) H1 (fun v H2 => tr { nx := fun _ H' => Q .non H', rt := Q } ((startF N vs [some (.ref D)]).set i (some v)) H2) E2) :
    FnOk P w K mg base CX (k + 1) f (ksFn F.name F.qual F.params F.body F.scope .none .none doc pm an (.ref F.c) ct cc) ps sp := by
  refine ⟨ar, fun A outer s H args us vs Q E room env bind rel prem => ?_⟩
  have kin : K.In s.heap := env.mod.kin.keeps fun b o z => (env.bs b o z).1
  have nl : s.heap.NoLimit := env.mod.nolimit.keeps fun b o z => (env.bs b o z).1
  have long := ar _ _ _ _ prem
  obtain ⟨x, dx, fs, E2, ta, tr, hσ, hx, hp, ha, hr, q⟩ := bd A outer s H vs Q E (room.deeper _) prem
  have cells := cells_at T env
  have TT := T
  obtain ⟨nm, qual, params, body, scope, cl, c⟩ := F
  have hcl : cl = [(("__class__" : Str), cc)] := T.cl
  subst hcl
  refine ks_codeAny_call_defAt (binds := ps.zip us) room.depth (kin _ _ hf) rfl nl (PySem.W.codeRec_of kin T.code) rfl bind S.nocell (fun z hz => S.par z.1 (List.of_mem_zip hz).1) (fun h₁ hns k₁ => ?_) S.co S.gen S.kind
  have I : Inv (ncx CX P w K mg base N ⟨nm, qual, params, body, scope, [(("__class__" : Str), cc)], c⟩ f A outer s H E) [] (startF N vs [some (.ref D)]) H { s with heap := h₁, toks := s.toks + (ps.zip us).length } := inv_startN S room.hd env long rel cells hns k₁
  have hbd2 : body = .Assign [.Name y py] (.Call (.Attribute (.Call (.Name "super" p0) [] [] p1) m apos) (e :: es) [] pos) pst :: st := hbd
  subst hbd2
  generalize hF : (⟨nm, qual, params, .Assign [.Name y py] (.Call (.Attribute (.Call (.Name "super" p0) [] [] p1) m apos) (e :: es) [] pos) pst :: st, scope, [(("__class__" : Str), cc)], c⟩ : NF) = F at *
  have W : _root_.PySem.wpAt (model P w) (ncx CX P w K mg base N F f A outer s H E).A (.func F.body (envF F f s.heap.objs.size)) (execs F.body (envF F f s.heap.objs.size))
      (SP (ncx CX P w K mg base N F f A outer s H E) [] { nx := fun _ H' => Q .non H', rt := Q }) (ncx CX P w K mg base N F f A outer s H E).xe { s with heap := h₁, toks := s.toks + (ps.zip us).length } := by
    rw [hbd]
    apply ks_wpAt_execs_cons
    apply ks_wpAt_Assign_Name (hs := hsw _)
    apply PySem.ks_wpAt_mono (eval_super (σ := startF N vs [some (.ref D)]) TT hline (hform _) I hN hσ hx G (room.deeper _) hb2 hp ha (he _) (hpl _) q)
    · intro v s1 hv
      obtain ⟨u, H1, I1, ru, q1⟩ := hv
      apply store_ok I1 S.nd hi (.inl hy) ru (hf := .inr hy)
      intro s2 I2
      exact _root_.PySem.wpAt_of_wpAny (hr.run [] s2 _ H1 _ I2 q1)
    · exact fun _ _ z => z
  subst hF
  refine PySem.ks_wpAt_mono W (fun fl s' hs => ?_) fun _ _ z => z
  · cases fl with
    | ret u =>
      obtain ⟨v, σ2, H2, J, rv, qv⟩ := hs
      exact ⟨v, H2, J.os, J.bare, J.base, J.hok, rv, qv⟩
    | next =>
      obtain ⟨σ2, H2, J, qv⟩ := hs
      exact ⟨.non, H2, J.os, J.bare, J.base, J.hok, rfl, qv⟩
    | brk =>
      obtain ⟨_, _, _, qv⟩ := hs
      exact qv.elim
    | cont =>
      obtain ⟨_, _, _, qv⟩ := hs
      exact qv.elim
/-- super().m() as a value -/
theorem eval_super0 {CX2 : CXT} {k : Nat} {fd : FuncData} {ps : List Str} {sp : Sp} {E : XK} {body : List Stmt} {p0 p1 apos pos : Pos} {s : Shared} {pins : List (Addr × Obj)} {σ : L2.St} {H : Hp} {x dx : Addr} {fs : List (Str × V)} {Q : VK}
    (T : SupTxt P K C D f g cc F m) (hline : (apos.endLine == pos.line) = true)
    (hform : methodCallForm (([] : List Expr).length + ([] : List Keyword).length) (backTo pos (starEach [] (envF F f s0.heap.objs.size))) (backToKw pos (keywordEach [] (envF F f s0.heap.objs.size))) = true)
    (I : Inv (ncx CX P w K mg base N F f A outer s0 H0 E0) pins σ H s) (hN : N[0]? = some ("self" : Str)) (hσ : σ[0]? = some (some (.ref x))) (hx : H x = some (.ins C dx fs))
    (G : FnOk P w K mg base CX2 k g fd ps sp) (hr : Room k (ncx CX P w K mg base N F f A outer s0 H0 E0).A) (hb : Binds K fd ps []) (hp : Passes CX2 (ncx CX P w K mg base N F f A outer s0 H0 E0) E)
    (h : sp [.ref x] H Q E) :
    _root_.PySem.wpAt (model P w) (ncx CX P w K mg base N F f A outer s0 H0 E0).A (.func body (envF F f s0.heap.objs.size))
      (eval (.Call (.Attribute (.Call (.Name "super" p0) [] [] p1) m apos) [] [] pos) (envF F f s0.heap.objs.size)) (EP (ncx CX P w K mg base N F f A outer s0 H0 E0) pins σ Q) (ncx CX P w K mg base N F f A outer s0 H0 E0).xe s := by
  refine at_super T hline hform I hN hσ hx fun q s' J => ?_
  have hq := (J.pin (q, PySem.W.methodObj (.ref g) (.ref x)) (List.mem_append_right _ (List.mem_append_right _ List.mem_cons_self))).1
  apply PySem.W.callWith_of (P := PySem.W.MethP K q g (.ref x)) rfl (PySem.W.keeps_M T.fg)
  apply evalArgs_nil3
  refine ⟨⟨hq, J.kIn⟩, ?_⟩
  refine wpAny_mono (run_bound (us := []) (vs := []) (pins := pins ++ [(q, PySem.W.methodObj (.ref g) (.ref x))]) G hr hb hp J hq .nil h) (fun v s2 hv => ?_) fun _ _ z => z
  obtain ⟨y, H2, J2, ry, qy⟩ := hv
  exact ⟨y, H2, J2.pins_of fun p hp => J2.pin p (List.mem_append_right _ (List.mem_append_left _ hp)), ry, qy⟩
/-- a def super().m(); .. keeps its promise -/
theorem okS_do {CX2 : CXT} {k : Nat} {fd2 : FuncData} {ps ps2 : List Str} {sp sp2 : Sp} {p0 p1 apos pos pst : Pos} {st : List Stmt}
    {oc : Value} {od : Option Addr} {doc pm : Value} {an : Option Addr} {ct : Value} {osl : Array (Option Value)}
    (T : SupTxt P K C D f g cc F m) (hf : K.lookup f = some ⟨oc, od, .func (ksFn F.name F.qual F.params F.body F.scope .none .none doc pm an (.ref F.c) ct cc), osl⟩)
    (S : NScope N ps ["__class__"] F.scope)
    (hbd : F.body = .Expr (.Call (.Attribute (.Call (.Name "super" p0) [] [] p1) m apos) [] [] pos) pst :: st)
    (ar : ∀ vs H Q E, sp vs H Q E → vs.length = ps.length) (hN : N[0]? = some ("self" : Str))
    (G : FnOk P w K mg base CX2 k g fd2 ps2 sp2) (hb2 : Binds K fd2 ps2 [])
    (hline : (apos.endLine == pos.line) = true)
    (hform : ∀ L, methodCallForm (([] : List Expr).length + ([] : List Keyword).length) (backTo pos (starEach [] (envF F f L))) (backToKw pos (keywordEach [] (envF F f L))) = true)
    (hsw : ∀ L, swapsWith (.Call (.Attribute (.Call (.Name "super" p0) [] [] p1) m apos) [] [] pos) none pst.line (envF F f L) = pure false)
    (bd : ∀ (A : Around) (outer : List Env) (s : Shared) (H : Hp) (vs : List V) (Q : VK) (E : XK), Room k (A.deeper (envF F f s.heap.objs.size)) → sp vs H Q E →
      ∃ (x dx : Addr) (fs : List (Str × V)) (E2 : XK) (tr : TS), (startF N vs [some (.ref D)])[0]? = some (some (.ref x)) ∧ H x = some (.ins C dx fs) ∧ Passes CX2 (ncx CX P w K mg base N F f A outer s H E) E2 ∧
        PSs (ncx CX P w K mg base N F f A outer s H E) st tr ∧
        sp2 [.ref x] H (fun _ H2 => tr { nx := fun _ H' => Q .non H', rt := Q } (startF N vs [some (.ref D)]) H2) E2) :
    FnOk P w K mg base CX (k + 1) f (ksFn F.name F.qual F.params F.body F.scope .none .none doc pm an (.ref F.c) ct cc) ps sp := by
  refine ⟨ar, fun A outer s H args us vs Q E room env bind rel prem => ?_⟩
  have kin : K.In s.heap := env.mod.kin.keeps fun b o z => (env.bs b o z).1
  have nl : s.heap.NoLimit := env.mod.nolimit.keeps fun b o z => (env.bs b o z).1
  have long := ar _ _ _ _ prem
  obtain ⟨x, dx, fs, E2, tr, hσ, hx, hp, hr, q⟩ := bd A outer s H vs Q E (room.deeper _) prem
  have cells := cells_at T env
  have TT := T
  obtain ⟨nm, qual, params, body, scope, cl, c⟩ := F
  have hcl : cl = [(("__class__" : Str), cc)] := T.cl
  subst hcl
  refine ks_codeAny_call_defAt (binds := ps.zip us) room.depth (kin _ _ hf) rfl nl (PySem.W.codeRec_of kin T.code) rfl bind S.nocell (fun z hz => S.par z.1 (List.of_mem_zip hz).1) (fun h₁ hns k₁ => ?_) S.co S.gen S.kind
  have I : Inv (ncx CX P w K mg base N ⟨nm, qual, params, body, scope, [(("__class__" : Str), cc)], c⟩ f A outer s H E) [] (startF N vs [some (.ref D)]) H { s with heap := h₁, toks := s.toks + (ps.zip us).length } := inv_startN S room.hd env long rel cells hns k₁
  have hbd2 : body = .Expr (.Call (.Attribute (.Call (.Name "super" p0) [] [] p1) m apos) [] [] pos) pst :: st := hbd
  subst hbd2
  generalize hF : (⟨nm, qual, params, .Expr (.Call (.Attribute (.Call (.Name "super" p0) [] [] p1) m apos) [] [] pos) pst :: st, scope, [(("__class__" : Str), cc)], c⟩ : NF) = F at *
  have W : _root_.PySem.wpAt (model P w) (ncx CX P w K mg base N F f A outer s H E).A (.func F.body (envF F f s.heap.objs.size)) (execs F.body (envF F f s.heap.objs.size))
      (SP (ncx CX P w K mg base N F f A outer s H E) [] { nx := fun _ H' => Q .non H', rt := Q }) (ncx CX P w K mg base N F f A outer s H E).xe { s with heap := h₁, toks := s.toks + (ps.zip us).length } := by
    rw [hbd]
    apply ks_wpAt_execs_cons
    apply ks_wpAt_Expr_any (hi := I.quiet) (hs := hsw _)
    apply PySem.ks_wpAt_mono (eval_super0 (σ := startF N vs [some (.ref D)]) TT hline (hform _) I hN hσ hx G (room.deeper _) hb2 hp q)
    · intro v s1 hv
      obtain ⟨u, H1, I1, ru, q1⟩ := hv
      exact _root_.PySem.wpAt_of_wpAny (hr.run [] s1 _ H1 _ I1 q1)
    · exact fun _ _ z => z
  subst hF
  refine PySem.ks_wpAt_mono W (fun fl s' hs => ?_) fun _ _ z => z
  · cases fl with
    | ret u =>
      obtain ⟨v, σ2, H2, J, rv, qv⟩ := hs
      exact ⟨v, H2, J.os, J.bare, J.base, J.hok, rv, qv⟩
    | next =>
      obtain ⟨σ2, H2, J, qv⟩ := hs
      exact ⟨.non, H2, J.os, J.bare, J.base, J.hok, rfl, qv⟩
    | brk =>
      obtain ⟨_, _, _, qv⟩ := hs
      exact qv.elim
    | cont =>
      obtain ⟨_, _, _, qv⟩ := hs
      exact qv.elim
end
end Gs
/-! Methods that raise. -/
namespace Gx
open PySem PySem.Spec PyProof.Rows L2 Gd
theorem pe_or {X : Cx} {e : Expr} {t u : TE} (a : PE X e t) (b : PE X e u) : PE X e (fun σ H Q => t σ H Q ∨ u σ H Q) := ⟨fun pins s σ H Q I h => h.elim (a.run pins s σ H Q I) (b.run pins s σ H Q I)⟩
/-- a method that may raise -/
structure MetX (P : Program) (w : World) (K : PySem.W.Frag) (mg : Str → Option Value) (base : Heap) (k : Nat) (C : Addr) (m : Str) (sp : Sp) : Prop where
  ex : ∃ (f : Addr) (fd : FuncData) (ps : List Str), Cls K C ∧ Meth K C m f ∧ FnOk P w K mg base (L2.CX P w) k f fd ps sp ∧ Binds K fd ps []
def tMethX (C : Addr) (m : Str) (sp : Sp) (E : L2.St → XK) (ta : TE) (t : TA) : TE := fun σ H Q => ta σ H fun x H1 => ∃ a dx fs, x = .ref a ∧ H1 a = some (.ins C dx fs) ∧ fs.lookup m = none ∧ t σ H1 fun vs H2 => sp (x :: vs) H2 Q (E σ)
section
variable {X : Cx} {k j : Nat} {C : Addr} {m : Str} {sp : Sp} {pos apos : Pos} {e o : Expr} {es : List Expr} {ta : TE} {t : TA}
theorem pe_mtX {W : WX} {pl : Sem Bool} (c : MetX X.prog X.w X.K X.mg X.base k C m sp) (hr : Room j X.A) (hk : k ≤ j) (tk : Takes X W) (he : PE X o ta) (ha : PA X (e :: es) t)
    (hst : starEach (e :: es) X.env = (false, eval e X.env) :: starEach es X.env := by rfl) (hpl : (backTo pos (starEach es X.env)).any (·.1) = false := by rfl)
    (ht : eval (.Call (.Attribute o m apos) (e :: es) [] pos) X.env = (do
      let ov ← eval o X.env
      standAt apos.atName
      let (f, first) ← holding [ov] (getMethod ov m pl)
      callWith pos f first (backTo pos (starEach (e :: es) X.env)) (backToKw pos (keywordEach [] X.env))) := by rfl) :
    PE X (.Call (.Attribute o m apos) (e :: es) [] pos) (tMethX C m sp (WE W) ta t) := by
  obtain ⟨f, fd, ps, hc, hm, F, b⟩ := c.ex
  refine ⟨fun pins s σ H Q I h => ?_⟩
  refine PySem.W.methodCall_KW (pl := pl) (thn (he.run pins s σ H _ I h) fun u s1 ⟨x, H1, I1, rx, a, dx, fs, ex, ea, l, q⟩ => ?_) ht
  subst ex
  obtain rfl : u = Value.ref a := rx
  refine getmeth_ok I1 ea hc hm l ?_
  refine PySem.W.callWith_K (first := [.ref a]) (h₀ := X.base) I.ok.mod.kin hm.kp (thn (ha.run pos pins s1 σ H1 _ I1 q) fun us s2 ⟨vs, H2, I2, r, q2⟩ => ⟨I2.kIn, ?_⟩) hst hpl
  exact run_fnS (us := .ref a :: us) (vs := .ref a :: vs) F (hr.mono hk) b (passAt tk σ) I2 (.cons rfl r) q2
/-- where it raises nothing -/
theorem pe_mtN {pl : Sem Bool} (c : MetX X.prog X.w X.K X.mg X.base k C m sp) (hr : Room j X.A) (hk : k ≤ j) (he : PE X o ta) (ha : PA X (e :: es) t)
    (hst : starEach (e :: es) X.env = (false, eval e X.env) :: starEach es X.env := by rfl) (hpl : (backTo pos (starEach es X.env)).any (·.1) = false := by rfl)
    (ht : eval (.Call (.Attribute o m apos) (e :: es) [] pos) X.env = (do
      let ov ← eval o X.env
      standAt apos.atName
      let (f, first) ← holding [ov] (getMethod ov m pl)
      callWith pos f first (backTo pos (starEach (e :: es) X.env)) (backToKw pos (keywordEach [] X.env))) := by rfl) :
    PE X (.Call (.Attribute o m apos) (e :: es) [] pos) (tMeth C m sp [] E0 ta t) := by
  obtain ⟨f, fd, ps, hc, hm, F, b⟩ := c.ex
  exact pe_meth (pl := pl) he hc hm F (hr.mono hk) b .nil passL ha hst hpl ht
end
end Gx
set_option maxHeartbeats 1000000
namespace K10
open PySem PySem.Spec PyProof.Rows L2 Gd
open C8 (clsBody Met pe_mt pe_mt0)
def topS (i : Nat) : Stmt := PySem.Challenge.pw_makeskept_k10_trees_refused.main.body.getD i (.Pass ⟨0, 0, 0, 0⟩)
abbrev s__wall : Stmt := topS 0
abbrev s_is_whole : Stmt := topS 7
abbrev s__law_cell : Stmt := topS 14
abbrev s__law_box : Stmt := topS 15
abbrev s__law_take : Stmt := topS 16
abbrev s__law_pick : Stmt := topS 17
abbrev s__law_tree : Stmt := topS 18
abbrev s__law_line : Stmt := topS 19
abbrev s__law_owners : Stmt := topS 20
abbrev s__law_built : Stmt := topS 21
abbrev s__law_asked : Stmt := topS 22
abbrev s__law_told : Stmt := topS 23
abbrev s__law_bad : Stmt := topS 24
abbrev s__law_right : Stmt := topS 25
abbrev s__law_steps_right : Stmt := topS 26
abbrev s_law : Stmt := topS 27
abbrev s_NoMake___init__ : Stmt := (clsBody (topS 3)).getD 0 (.Pass ⟨0, 0, 0, 0⟩)
abbrev s_NoNumber___init__ : Stmt := (clsBody (topS 4)).getD 0 (.Pass ⟨0, 0, 0, 0⟩)
abbrev s_TooMany___init__ : Stmt := (clsBody (topS 5)).getD 0 (.Pass ⟨0, 0, 0, 0⟩)
abbrev s_MakeTree___init__ : Stmt := (clsBody (topS 10)).getD 0 (.Pass ⟨0, 0, 0, 0⟩)
abbrev s_MakeTree_many : Stmt := (clsBody (topS 10)).getD 1 (.Pass ⟨0, 0, 0, 0⟩)
abbrev s_MakeTree_grow : Stmt := (clsBody (topS 10)).getD 2 (.Pass ⟨0, 0, 0, 0⟩)
abbrev s_MakeTree_own : Stmt := (clsBody (topS 10)).getD 3 (.Pass ⟨0, 0, 0, 0⟩)
abbrev s_MakeTree_depth : Stmt := (clsBody (topS 10)).getD 4 (.Pass ⟨0, 0, 0, 0⟩)
abbrev s_MakeTree_on : Stmt := (clsBody (topS 10)).getD 5 (.Pass ⟨0, 0, 0, 0⟩)
abbrev s_MakeTree_line : Stmt := (clsBody (topS 10)).getD 6 (.Pass ⟨0, 0, 0, 0⟩)
abbrev s_MakeTree_up : Stmt := (clsBody (topS 10)).getD 7 (.Pass ⟨0, 0, 0, 0⟩)
abbrev s_MakeTree_nearest : Stmt := (clsBody (topS 10)).getD 8 (.Pass ⟨0, 0, 0, 0⟩)
abbrev s_MakeTree_way : Stmt := (clsBody (topS 10)).getD 9 (.Pass ⟨0, 0, 0, 0⟩)
abbrev s_MakeTree_apart : Stmt := (clsBody (topS 10)).getD 10 (.Pass ⟨0, 0, 0, 0⟩)
abbrev s_MakeTree_copied : Stmt := (clsBody (topS 10)).getD 11 (.Pass ⟨0, 0, 0, 0⟩)
abbrev s_MakeTree__grown_alike : Stmt := (clsBody (topS 10)).getD 12 (.Pass ⟨0, 0, 0, 0⟩)
abbrev s_MakeTree__need_make : Stmt := (clsBody (topS 10)).getD 13 (.Pass ⟨0, 0, 0, 0⟩)
abbrev s_MakeTree__need_steps : Stmt := (clsBody (topS 10)).getD 14 (.Pass ⟨0, 0, 0, 0⟩)
abbrev s_LeapTree___init__ : Stmt := (clsBody (topS 12)).getD 0 (.Pass ⟨0, 0, 0, 0⟩)
abbrev s_LeapTree_grow : Stmt := (clsBody (topS 12)).getD 1 (.Pass ⟨0, 0, 0, 0⟩)
abbrev s_LeapTree_leaps : Stmt := (clsBody (topS 12)).getD 2 (.Pass ⟨0, 0, 0, 0⟩)
abbrev s_LeapTree_leap_way : Stmt := (clsBody (topS 12)).getD 3 (.Pass ⟨0, 0, 0, 0⟩)
abbrev s_LeapTree_copied : Stmt := (clsBody (topS 12)).getD 4 (.Pass ⟨0, 0, 0, 0⟩)
abbrev s_LeapTree__leaps_through : Stmt := (clsBody (topS 12)).getD 5 (.Pass ⟨0, 0, 0, 0⟩)
theorem sc_MakeTree___init__ : FnScope ["self"] ["self"] (defScope s_MakeTree___init__) := ⟨rfl, rfl, rfl, by decide +kernel, rfl, by decide +kernel, by decide +kernel⟩
theorem sc_MakeTree_many : FnScope ["self"] ["self"] (defScope s_MakeTree_many) := ⟨rfl, rfl, rfl, by decide +kernel, rfl, by decide +kernel, by decide +kernel⟩
theorem sc_MakeTree_grow : FnScope ["self", "make", "number"] ["self", "make"] (defScope s_MakeTree_grow) := ⟨rfl, rfl, rfl, by decide +kernel, rfl, by decide +kernel, by decide +kernel⟩
theorem sc_MakeTree_own : FnScope ["self", "make"] ["self", "make"] (defScope s_MakeTree_own) := ⟨rfl, rfl, rfl, by decide +kernel, rfl, by decide +kernel, by decide +kernel⟩
theorem sc_MakeTree_depth : FnScope ["self", "make"] ["self", "make"] (defScope s_MakeTree_depth) := ⟨rfl, rfl, rfl, by decide +kernel, rfl, by decide +kernel, by decide +kernel⟩
theorem sc_MakeTree_on : FnScope ["self", "make"] ["self", "make"] (defScope s_MakeTree_on) := ⟨rfl, rfl, rfl, by decide +kernel, rfl, by decide +kernel, by decide +kernel⟩
theorem sc_MakeTree_line : FnScope ["self", "make", "line"] ["self", "make"] (defScope s_MakeTree_line) := ⟨rfl, rfl, rfl, by decide +kernel, rfl, by decide +kernel, by decide +kernel⟩
theorem sc_MakeTree_up : FnScope ["self", "make", "steps"] ["self", "make", "steps"] (defScope s_MakeTree_up) := ⟨rfl, rfl, rfl, by decide +kernel, rfl, by decide +kernel, by decide +kernel⟩
theorem sc_MakeTree_nearest : FnScope ["self", "one", "other"] ["self", "one", "other"] (defScope s_MakeTree_nearest) := ⟨rfl, rfl, rfl, by decide +kernel, rfl, by decide +kernel, by decide +kernel⟩
theorem sc_MakeTree_way : FnScope ["self", "one", "other", "depth", "up", "down"] ["self", "one", "other"] (defScope s_MakeTree_way) := ⟨rfl, rfl, rfl, by decide +kernel, rfl, by decide +kernel, by decide +kernel⟩
theorem sc_MakeTree_apart : FnScope ["self", "one", "other"] ["self", "one", "other"] (defScope s_MakeTree_apart) := ⟨rfl, rfl, rfl, by decide +kernel, rfl, by decide +kernel, by decide +kernel⟩
theorem sc_MakeTree_copied : FnScope ["self"] ["self"] (defScope s_MakeTree_copied) := ⟨rfl, rfl, rfl, by decide +kernel, rfl, by decide +kernel, by decide +kernel⟩
theorem sc_MakeTree__grown_alike : FnScope ["self", "other"] ["self", "other"] (defScope s_MakeTree__grown_alike) := ⟨rfl, rfl, rfl, by decide +kernel, rfl, by decide +kernel, by decide +kernel⟩
theorem sc_MakeTree__need_make : FnScope ["self", "make"] ["self", "make"] (defScope s_MakeTree__need_make) := ⟨rfl, rfl, rfl, by decide +kernel, rfl, by decide +kernel, by decide +kernel⟩
theorem sc_MakeTree__need_steps : FnScope ["self", "make", "steps"] ["self", "make", "steps"] (defScope s_MakeTree__need_steps) := ⟨rfl, rfl, rfl, by decide +kernel, rfl, by decide +kernel, by decide +kernel⟩
theorem sc_LeapTree_leaps : FnScope ["self", "make"] ["self", "make"] (defScope s_LeapTree_leaps) := ⟨rfl, rfl, rfl, by decide +kernel, rfl, by decide +kernel, by decide +kernel⟩
theorem sc_LeapTree_leap_way : FnScope ["self", "make", "steps", "way", "at", "power"] ["self", "make", "steps"] (defScope s_LeapTree_leap_way) := ⟨rfl, rfl, rfl, by decide +kernel, rfl, by decide +kernel, by decide +kernel⟩
theorem sc_LeapTree_copied : FnScope ["self"] ["self"] (defScope s_LeapTree_copied) := ⟨rfl, rfl, rfl, by decide +kernel, rfl, by decide +kernel, by decide +kernel⟩
theorem sc_LeapTree__leaps_through : FnScope ["self", "own", "leaps"] ["self", "own"] (defScope s_LeapTree__leaps_through) := ⟨rfl, rfl, rfl, by decide +kernel, rfl, by decide +kernel, by decide +kernel⟩
theorem sc__wall : FnScope ["k"] ["k"] (defScope s__wall) := ⟨rfl, rfl, rfl, by decide +kernel, rfl, by decide +kernel, by decide +kernel⟩
theorem sc_is_whole : FnScope ["thing", "low", "high"] ["thing", "low", "high"] (defScope s_is_whole) := ⟨rfl, rfl, rfl, by decide +kernel, rfl, by decide +kernel, by decide +kernel⟩
theorem sc__law_cell : FnScope ["_law_script", "_law_k"] ["_law_script", "_law_k"] (defScope s__law_cell) := ⟨rfl, rfl, rfl, by decide +kernel, rfl, by decide +kernel, by decide +kernel⟩
theorem sc__law_box : FnScope ["_law_cell_here"] ["_law_cell_here"] (defScope s__law_box) := ⟨rfl, rfl, rfl, by decide +kernel, rfl, by decide +kernel, by decide +kernel⟩
theorem sc__law_take : FnScope ["_law_box_here", "_law_many", "_law_digit", "_law_number"] ["_law_box_here", "_law_many"] (defScope s__law_take) := ⟨rfl, rfl, rfl, by decide +kernel, rfl, by decide +kernel, by decide +kernel⟩
theorem sc__law_pick : FnScope ["_law_box_here", "_law_many", "_law_way"] ["_law_box_here", "_law_many"] (defScope s__law_pick) := ⟨rfl, rfl, rfl, by decide +kernel, rfl, by decide +kernel, by decide +kernel⟩
theorem sc__law_tree : FnScope ["_law_kind"] ["_law_kind"] (defScope s__law_tree) := ⟨rfl, rfl, rfl, by decide +kernel, rfl, by decide +kernel, by decide +kernel⟩
theorem sc__law_line : FnScope ["_law_owners_here", "_law_make", "_law_found"] ["_law_owners_here", "_law_make"] (defScope s__law_line) := ⟨rfl, rfl, rfl, by decide +kernel, rfl, by decide +kernel, by decide +kernel⟩
theorem sc__law_owners : FnScope ["_law_script", "_law_most", "_law_owners_here", "_law_k", "_law_box_here", "_law_many", "_law_turn"] ["_law_script", "_law_most"] (defScope s__law_owners) := ⟨rfl, rfl, rfl, by decide +kernel, rfl, by decide +kernel, by decide +kernel⟩
theorem sc__law_built : FnScope ["_law_kind", "_law_owners_here", "_law_tree_here", "_law_owner"] ["_law_kind", "_law_owners_here"] (defScope s__law_built) := ⟨rfl, rfl, rfl, by decide +kernel, rfl, by decide +kernel, by decide +kernel⟩
theorem sc__law_asked : FnScope ["_law_tree_here", "_law_way", "_law_one", "_law_other"] ["_law_tree_here", "_law_way", "_law_one", "_law_other"] (defScope s__law_asked) := ⟨rfl, rfl, rfl, by decide +kernel, rfl, by decide +kernel, by decide +kernel⟩
theorem sc__law_told : FnScope ["_law_tree_here", "_law_way", "_law_one", "_law_other", "_law_told_here", "e"] ["_law_tree_here", "_law_way", "_law_one", "_law_other"] (defScope s__law_told) := ⟨rfl, rfl, rfl, by decide +kernel, rfl, by decide +kernel, by decide +kernel⟩
theorem sc__law_bad : FnScope ["_law_box_here", "_law_many", "_law_some"] ["_law_box_here", "_law_many"] (defScope s__law_bad) := ⟨rfl, rfl, rfl, by decide +kernel, rfl, by decide +kernel, by decide +kernel⟩
theorem sc__law_right : FnScope ["_law_box_here", "_law_tree_here", "_law_kind", "_law_owners_here", "_law_way", "_law_where", "_law_bad_here", "_law_other", "_law_good"] ["_law_box_here", "_law_tree_here", "_law_kind", "_law_owners_here"] (defScope s__law_right) := ⟨rfl, rfl, rfl, by decide +kernel, rfl, by decide +kernel, by decide +kernel⟩
theorem sc__law_steps_right : FnScope ["_law_box_here", "_law_tree_here", "_law_kind", "_law_owners_here", "_law_make", "_law_depth", "_law_steps", "_law_way"] ["_law_box_here", "_law_tree_here", "_law_kind", "_law_owners_here"] (defScope s__law_steps_right) := ⟨rfl, rfl, rfl, by decide +kernel, rfl, by decide +kernel, by decide +kernel⟩
theorem sc_law : FnScope ["_law_script", "_law_box_here", "_law_kind", "_law_owners_here", "_law_tree_here", "_law_k", "_law_make"] ["_law_script"] (defScope s_law) := ⟨rfl, rfl, rfl, by decide +kernel, rfl, by decide +kernel, by decide +kernel⟩
structure Txt (K : PySem.W.Frag) (mg : Str → Option Value) : Prop where
  b_len : mg "len" = none
  b_max : mg "max" = none
  b_min : mg "min" = none
  b_range : mg "range" = none
  b_repr : mg "repr" = none
  b_zip : mg "zip" = none
  b_isinstance : mg "isinstance" = none
  t_int : mg "int" = none
  t_bool : mg "bool" = none
  t_list : mg "list" = none
  b_reversed : mg "reversed" = none
  g_MOST_MAKES : GInt mg "MOST_MAKES" 64
/-- a class of trees -/
structure TreeC (K : PySem.W.Frag) (C : Addr) : Prop where
  cl : Cls K C
  n_owns : NoAttr K C "_owns"
  n_depths : NoAttr K C "_depths"
  n_on : NoAttr K C "_on"
  n_leaps : NoAttr K C "_leaps"
def fields : List Str := ["_owns", "_depths", "_on", "_leaps"]
def num (j : Nat) : V := .int (j : Nat)
/-! the line of a make -/
def par (ow : List Nat) (i : Nat) : Nat := ow.getD (i - 1) 0
def Low (ow : List Nat) : Prop := ∀ (i j : Nat), ow[i]? = some j → j ≤ i
theorem par_lt {ow : List Nat} (h : Low ow) {i : Nat} (hi : 0 < i) : par ow i < i := by
  unfold par
  rw [List.getD_eq_getElem?_getD]
  cases e : ow[i - 1]? with
  | none =>
    show 0 < i
    exact hi
  | some j =>
    have := h _ _ e
    show j < i
    omega
def lineN (ow : List Nat) : Nat → Nat → List Nat
  | 0, i => [i]
  | f + 1, i => if i = 0 then [0] else lineN ow f (par ow i) ++ [i]
def line (ow : List Nat) (i : Nat) : List Nat := lineN ow i i
theorem lineN_more {ow : List Nat} (h : Low ow) : ∀ (f i : Nat), i ≤ f → lineN ow f i = lineN ow i i := by
  intro f
  induction f using Nat.strongRecOn with
  | _ f ih =>
    intro i hi
    cases f with
    | zero =>
      have e : i = 0 := by omega
      rw [e]
    | succ f =>
      cases i with
      | zero => rfl
      | succ i =>
        have hp := par_lt h (i := i + 1) (by omega)
        show (if i + 1 = 0 then [0] else lineN ow f (par ow (i + 1)) ++ [i + 1]) = (if i + 1 = 0 then [0] else lineN ow i (par ow (i + 1)) ++ [i + 1])
        rw [if_neg (by omega), if_neg (by omega), ih f (by omega) _ (by omega)]
        by_cases e : i < f + 1
        · rw [ih i (by omega) _ (by omega)]
        · omega
theorem line_step {ow : List Nat} (h : Low ow) {i : Nat} (hi : 0 < i) : line ow i = line ow (par ow i) ++ [i] := by
  obtain ⟨j, rfl⟩ : ∃ j, i = j + 1 := ⟨i - 1, by omega⟩
  have hp := par_lt h hi
  show (if j + 1 = 0 then [0] else lineN ow j (par ow (j + 1)) ++ [j + 1]) = _
  rw [if_neg (by omega), lineN_more h j _ (by omega)]
  rfl
theorem line_zero (ow : List Nat) : line ow 0 = [0] := rfl
theorem line_le {ow : List Nat} (h : Low ow) : ∀ (i : Nat), ∀ x ∈ line ow i, x ≤ i := by
  intro i
  induction i using Nat.strongRecOn with
  | _ i ih =>
    intro x hx
    by_cases h0 : 0 < i
    · rw [line_step h h0] at hx
      rcases List.mem_append.mp hx with hx | hx
      · have := ih _ (par_lt h h0) x hx
        have := par_lt h h0
        omega
      · rw [List.mem_singleton.mp hx]
        exact Nat.le_refl _
    · have e : i = 0 := by omega
      subst e
      rw [line_zero] at hx
      rw [List.mem_singleton.mp hx]
      exact Nat.le_refl _
theorem line_len {ow : List Nat} (h : Low ow) : ∀ i : Nat, (line ow i).length ≤ i + 1 := by
  intro i
  induction i using Nat.strongRecOn with
  | _ i ih =>
    by_cases h0 : 0 < i
    · rw [line_step h h0, List.length_append]
      have := ih _ (par_lt h h0)
      have := par_lt h h0
      show _ + 1 ≤ i + 1
      omega
    · have e : i = 0 := by omega
      subst e
      exact Nat.le_refl 1
/-- the last make that stands at the same place of both -/
def nearL (xs ys : List Nat) : Nat := (xs.zip ys).foldl (fun a p => if p.1 = p.2 then p.1 else a) 0
theorem near_snoc {xs ys : List Nat} {a : Nat} (h : a ∉ ys) : nearL (xs ++ [a]) ys = nearL xs ys := by
  have hz : (xs ++ [a]).zip ys = xs.zip ys ++ (match ys[xs.length]? with | some b => [(a, b)] | none => []) := by
    induction xs generalizing ys with
    | nil =>
      cases ys with
      | nil => rfl
      | cons y r => simp
    | cons x r ih =>
      cases ys with
      | nil => simp
      | cons y s =>
        have := ih (ys := s) (fun z => h (List.mem_cons_of_mem _ z))
        simp [this]
  unfold nearL
  rw [hz, List.foldl_append]
  cases e : ys[xs.length]? with
  | none => rfl
  | some b =>
    have hb : b ∈ ys := List.mem_of_getElem? e
    show (if a = b then a else _) = _
    have hab : a ≠ b := fun q => h (by rw [q]; exact hb)
    rw [if_neg hab]
theorem near_comm (xs ys : List Nat) : nearL xs ys = nearL ys xs := by
  unfold nearL
  have : ∀ (xs ys : List Nat) (c : Nat), (xs.zip ys).foldl (fun a p => if p.1 = p.2 then p.1 else a) c = (ys.zip xs).foldl (fun a p => if p.1 = p.2 then p.1 else a) c := by
    intro xs
    induction xs with
    | nil =>
      intro ys c
      simp
    | cons x r ih =>
      intro ys c
      cases ys with
      | nil => simp
      | cons y s =>
        simp only [List.zip_cons_cons, List.foldl_cons]
        rw [ih]
        by_cases e : x = y
        · rw [e]
        · rw [if_neg e, if_neg (fun q => e q.symm)]
  exact this xs ys 0
theorem near_self {ow : List Nat} (h : Low ow) (i : Nat) : nearL (line ow i) (line ow i) = i := by
  have all : ∀ (xs : List Nat) (c a : Nat), ((xs ++ [a]).zip (xs ++ [a])).foldl (fun a p => if p.1 = p.2 then p.1 else a) c = a := by
    intro xs
    induction xs with
    | nil =>
      intro c a
      simp
    | cons x r ih =>
      intro c a
      simp only [List.cons_append, List.zip_cons_cons, List.foldl_cons]
      exact ih _ a
  by_cases h0 : 0 < i
  · rw [line_step h h0]
    exact all _ 0 i
  · have e : i = 0 := by omega
    subst e
    rfl
theorem near_left {ow : List Nat} (h : Low ow) {i j : Nat} (hij : j < i) : nearL (line ow (par ow i)) (line ow j) = nearL (line ow i) (line ow j) := by
  rw [line_step h (by omega : 0 < i), near_snoc]
  intro hm
  have := line_le h j i hm
  omega
theorem near_right {ow : List Nat} (h : Low ow) {i j : Nat} (hij : i < j) : nearL (line ow i) (line ow (par ow j)) = nearL (line ow i) (line ow j) := by
  rw [near_comm, near_left h hij, near_comm]
theorem line_last {ow : List Nat} (h : Low ow) (i : Nat) : ∃ us, line ow i = us ++ [i] ∧ i ∉ us := by
  by_cases h0 : 0 < i
  · refine ⟨line ow (par ow i), line_step h h0, fun hm => ?_⟩
    have := line_le h _ _ hm
    have := par_lt h h0
    omega
  · have e : i = 0 := by omega
    subst e
    exact ⟨[], rfl, fun z => nomatch z⟩
theorem line_pre {ow : List Nat} (h : Low ow) : ∀ (i x : Nat), x ∈ line ow i → ∃ r, line ow i = line ow x ++ r := by
  intro i
  induction i using Nat.strongRecOn with
  | _ i ih =>
    intro x hx
    by_cases e : x = i
    · exact ⟨[], by rw [e, List.append_nil]⟩
    · by_cases h0 : 0 < i
      · rw [line_step h h0] at hx ⊢
        rcases List.mem_append.mp hx with hx | hx
        · obtain ⟨r, hr⟩ := ih _ (par_lt h h0) x hx
          exact ⟨r ++ [i], by rw [hr, List.append_assoc]⟩
        · exact absurd (List.mem_singleton.mp hx) e
      · have e0 : i = 0 := by omega
        subst e0
        rw [line_zero] at hx
        exact absurd (List.mem_singleton.mp hx) e
theorem zero_mem {ow : List Nat} (h : Low ow) : ∀ i : Nat, 0 ∈ line ow i := by
  intro i
  induction i using Nat.strongRecOn with
  | _ i ih =>
    by_cases h0 : 0 < i
    · rw [line_step h h0]
      exact List.mem_append_left _ (ih _ (par_lt h h0))
    · have e : i = 0 := by omega
      subst e
      exact List.mem_cons_self
/-- where a make stands on a line: at its depth, and not ahead -/
theorem line_index {ow : List Nat} (h : Low ow) {i x : Nat} (hx : x ∈ line ow i) : ∃ us r, line ow i = us ++ x :: r ∧ us.length = (line ow x).length - 1 ∧ x ∉ us := by
  obtain ⟨r, hr⟩ := line_pre h i x hx
  obtain ⟨us, hu, hn⟩ := line_last h x
  refine ⟨us, r, ?_, ?_, hn⟩
  · rw [hr, hu, List.append_assoc]
    rfl
  · rw [hu, List.length_append]
    show us.length = us.length + 1 - 1
    omega
/-- how deep each make stands -/
def depths (ow : List Nat) : List Nat := (List.range (ow.length + 1)).map fun i => (line ow i).length - 1
theorem depths_at {ow : List Nat} {i : Nat} (h : i ≤ ow.length) : atI ((depths ow).map num) ((i : Nat) : Int) = some (num ((line ow i).length - 1)) := by
  refine atI_nat ?_
  unfold depths
  rw [List.map_map, List.getElem?_map, List.getElem?_range (by omega)]
  rfl
theorem par_more {ow : List Nat} {k x : Nat} (hx : 0 < x) (h : x ≤ ow.length) : par (ow ++ [k]) x = par ow x := by
  unfold par
  rw [List.getD_eq_getElem?_getD, List.getD_eq_getElem?_getD, List.getElem?_append_left (by omega)]
theorem low_more {ow : List Nat} (h : Low ow) {k : Nat} (hk : k ≤ ow.length) : Low (ow ++ [k]) := by
  intro i j e
  by_cases hi : i < ow.length
  · rw [List.getElem?_append_left hi] at e
    exact h i j e
  · rw [List.getElem?_append_right (by omega)] at e
    by_cases h0 : i - ow.length = 0
    · rw [h0] at e
      have : k = j := Option.some.inj e
      omega
    · rw [List.getElem?_eq_none (by show 1 ≤ _; omega)] at e
      cases e
theorem line_more {ow : List Nat} (h : Low ow) {k : Nat} (hk : k ≤ ow.length) : ∀ x : Nat, x ≤ ow.length → line (ow ++ [k]) x = line ow x := by
  intro x
  induction x using Nat.strongRecOn with
  | _ x ih =>
    intro hx
    by_cases h0 : 0 < x
    · have := par_lt h h0
      rw [line_step (low_more h hk) h0, line_step h h0, par_more h0 hx, ih _ this (by omega)]
    · have e : x = 0 := by omega
      subst e
      rfl
theorem line_new {ow : List Nat} (h : Low ow) {k : Nat} (hk : k ≤ ow.length) : line (ow ++ [k]) (ow.length + 1) = line ow k ++ [ow.length + 1] := by
  have hp : par (ow ++ [k]) (ow.length + 1) = k := by
    unfold par
    rw [List.getD_eq_getElem?_getD, Nat.add_sub_cancel, List.getElem?_append_right (Nat.le_refl _), Nat.sub_self]
    rfl
  rw [line_step (low_more h hk) (by omega), hp, line_more h hk _ hk]
theorem depths_more {ow : List Nat} (h : Low ow) {k : Nat} (hk : k ≤ ow.length) : depths (ow ++ [k]) = depths ow ++ [(line ow k).length] := by
  unfold depths
  rw [List.length_append, show ow.length + [k].length + 1 = (ow.length + 1) + 1 from rfl, List.range_succ, List.map_append]
  congr 1
  · refine List.map_congr_left fun x hx => ?_
    rw [line_more h hk x (by have := List.mem_range.mp hx; omega)]
  · show [(line (ow ++ [k]) (ow.length + 1)).length - 1] = _
    rw [line_new h hk, List.length_append]
    rfl
theorem cut_from (xs : List V) (k : Nat) : cutV xs (some (k : Int)) none = xs.drop k := by
  unfold cutV
  rw [HT.sIx_nat, HT.sIx_none]
  by_cases h : k ≤ xs.length
  · rw [Nat.min_eq_left h]
    have := List.take_length (l := xs.drop k)
    rw [List.length_drop] at this
    exact this
  · rw [Nat.min_eq_right (by omega), List.drop_eq_nil_of_le (by omega : xs.length ≤ k), List.drop_length]
    exact List.take_nil
/-- a tree of the class C at t: the own makes of 1, 2, .. and how deep each stands -/
structure Tr (H : Hp) (t C : Addr) (ow ds : List Nat) : Prop where
  ex : ∃ (dx o d n : Addr) (fs : List (Str × V)), H t = some (.ins C dx fs) ∧ fs.lookup ("_owns" : Str) = some (.ref o) ∧ fs.lookup ("_depths" : Str) = some (.ref d) ∧ fs.lookup ("_on" : Str) = some (.ref n) ∧
    (∀ m, m ∉ fields → fs.lookup m = none) ∧ H o = some (.lst (.non :: ow.map num)) ∧ H d = some (.lst (ds.map num)) ∧ fs.length < 1000
  low : ∀ (i j : Nat), ow[i]? = some j → j ≤ i
  few : ow.length ≤ 63
  deep : ds = depths ow
section
variable {P : Program} {w : World} {K : PySem.W.Frag} {mg : Str → Option Value} {base : Heap} {C : Addr}
/-- a method of the class at C, by its name and its place in the text -/
structure MAt (K : PySem.W.Frag) (C : Addr) (m qual : Str) (st : Stmt) (ps : List Str) : Prop where
  ex : ∃ (f : Addr) (fd : FuncData), Fun K m qual st f fd ∧ Meth K C m f ∧ Binds K fd ps []
theorem MAt.met {m qual : Str} {st : Stmt} {N ps : List Str} {k : Nat} {sp : Sp} (M : MAt K C m qual st ps) (cl : Cls K C) (S : FnScope N ps (defScope st))
    (ar : ∀ vs H Q E, sp vs H Q E → vs.length = ps.length)
    (bd : ∀ (f : Addr) (cdv : Value) (A : Around) (outer : List Env) (s : Shared) (H : Hp) (vs : List V) (Q : VK) (E : XK), Room k (A.deeper (envOfC qual (defScope st) s.heap.objs.size f cdv)) → sp vs H Q E →
      ∃ t, PSs (cxOf CX0 P w K mg base N qual (defScope st) f cdv A outer s H E).nox (defBody st) t ∧ t { nx := fun _ H' => Q .non H', rt := Q } (start N vs) H) : Met P w K mg base (k + 1) C m sp [] := by
  obtain ⟨f, fd, F, me, b⟩ := M.ex
  exact ⟨f, fd, ps, [], cl, me, F.ok S ar (bd f), b, .nil⟩
def spMany (C : Addr) : Sp := fun vs H Q _ => ∃ (t : Addr) (ow ds : List Nat), vs = [.ref t] ∧ Tr H t C ow ds ∧ Q (.int ((ow.length + 1 : Nat) : Int)) H
theorem ok_many (T : Txt K mg) (TC : TreeC K C) (M : MAt K C "many" "MakeTree.many" s_MakeTree_many ["self"]) : Met P w K mg base 1 C "many" (spMany C) [] := by
  refine M.met TC.cl sc_MakeTree_many (fun vs H Q E h => ?_) (fun f cdv A outer s H vs Q E hr h => ?_)
  · obtain ⟨t, ow, ds, rfl, _⟩ := h
    rfl
  · obtain ⟨t, ow, ds, rfl, tr, q⟩ := h
    obtain ⟨dx, o, d, n, fs, e1, l1, l2, l3, lo, e2, e3, lf⟩ := tr.ex
    refine ⟨_, (pss_one (ps_ret (pe_callB call_len (by rfl) T.b_len boot_len_ (pa_cons (pe_fld (pv 0) rfl) pa_nil)))), ?_⟩
    refine ⟨_, rfl, t, C, dx, fs, .ref o, rfl, e1, TC.cl, TC.n_owns, l1, .ref o, (V.non :: ow.map num).length, rfl, .inl ⟨_, SqL.of e2, rfl⟩, ?_⟩
    have e : (V.non :: ow.map num).length = ow.length + 1 := by rw [List.length_cons, List.length_map]
    rw [e]
    exact q
def spWhI : Sp := fun vs H Q _ => ∃ n lo hi : Int, vs = [.int n, .int lo, .int hi] ∧ lo ≤ n ∧ n ≤ hi ∧ Q (.bl true) H
theorem ok_whI (T : Txt K mg) (D : DefAt K mg "is_whole" s_is_whole ["thing", "low", "high"]) : C8.Cal P w K mg base 1 "is_whole" spWhI [] := by
  obtain ⟨f, fd, F, m, b⟩ := D.ex
  refine ⟨f, fd, _, [], F.ok sc_is_whole (fun vs H Q E h => ?_) (fun cdv A outer s H vs Q E hr h => ?_), m, F.kp, b, .nil⟩
  · obtain ⟨n, lo, hi, rfl, _⟩ := h
    rfl
  · obtain ⟨n, lo, hi, rfl, h1, h2, q⟩ := h
    refine ⟨_, (pss_one (ps_ret (pe_and (pe_callB call_isi (by rfl) T.b_isinstance boot_isinstance_ (pa_cons (pv 0) (pa_cons (pe_bltn (v := .ty "int") (by rfl) T.t_int boot_int_ rfl) pa_nil))) (pe_and (pe_not (pe_callB call_isi (by rfl) T.b_isinstance boot_isinstance_ (pa_cons (pv 0) (pa_cons (pe_bltn (v := .ty "bool") (by rfl) T.t_bool boot_bool_ rfl) pa_nil)))) (pe_one (pe_chain op_le op_le (pv 1) (pv 0) (pv 2))))))), ?_⟩
    have ty := tyD (K := K) (H := H) (D1.dp (Dp.int n))
    refine ⟨_, rfl, .int n, .ty "int", _, .type "int", _, rfl, .ty _, ty, kInt (.int n), _, rfl, ?_⟩
    refine iteT ?_
    refine ⟨_, rfl, _, .ty "bool", _, .type "bool", _, rfl, .ty _, ty, kBool _, _, rfl, _, rfl, ?_⟩
    refine iteT ?_
    refine ⟨_, rfl, _, rfl, _, _, rfl, rfl, _, rfl, ?_⟩
    rw [decide_eq_true h1]
    refine iteT ⟨_, rfl, _, _, rfl, rfl, ?_⟩
    show Q (.bl (decide (n ≤ hi))) H
    rw [decide_eq_true h2]
    exact q
def spNeed (C : Addr) : Sp := fun vs H Q _ => ∃ (t : Addr) (ow ds : List Nat) (i : Nat), vs = [.ref t, num i] ∧ Tr H t C ow ds ∧ i ≤ ow.length ∧ Q .non H
theorem ok_need (T : Txt K mg) (TC : TreeC K C) (c_is_whole : C8.Cal P w K mg base 1 "is_whole" spWhI []) (m_many : Met P w K mg base 1 C "many" (spMany C) []) (M : MAt K C "_need_make" "MakeTree._need_make" s_MakeTree__need_make ["self", "make"]) :
    Met P w K mg base 2 C "_need_make" (spNeed C) [] := by
  refine M.met TC.cl sc_MakeTree__need_make (fun vs H Q E h => ?_) (fun f cdv A outer s H vs Q E hr h => ?_)
  · obtain ⟨t, ow, ds, i, rfl, _⟩ := h
    rfl
  · obtain ⟨t, ow, ds, i, rfl, tr, hi, q⟩ := h
    obtain ⟨dx, o, d, n, fs, e1, l1, l2, l3, lo, e2, e3, lf⟩ := tr.ex
    refine ⟨_, (pss_one (ps_if (pt_not (pt_val (C8.pe_c c_is_whole hr (by decide) (by rfl) (pa_cons (pv 1) (pa_cons pe_int (pa_cons (pe_op op_sub (pe_mt0 m_many hr (by decide) (pv 0)) pe_int) pa_nil))))))
          (pss_one ps_never) pss_nil)), ?_⟩
    have nl := lo
    refine ⟨_, rfl, _, rfl, t, dx, fs, rfl, e1, nl _ (by decide), t, ow, ds, rfl, tr, _, _, rfl, rfl, ?_⟩
    refine ⟨(i : Nat), 0, ((ow.length + 1 : Nat) : Int) - 1, rfl, by omega, by omega, ?_⟩
    exact ⟨_, rfl, iteF q⟩
theorem at_own {ow : List Nat} {i : Nat} (h0 : 0 < i) (h1 : i ≤ ow.length) : atI (V.non :: ow.map num) ((i : Nat) : Int) = some (num (par ow i)) := by
  refine atI_nat ?_
  obtain ⟨j, rfl⟩ : ∃ j, i = j + 1 := ⟨i - 1, by omega⟩
  rw [List.getElem?_cons_succ, List.getElem?_map]
  have hj : j < ow.length := by omega
  unfold par
  rw [List.getD_eq_getElem?_getD, Nat.add_sub_cancel, List.getElem?_eq_getElem hj]
  rfl
theorem none_of {H H' : Hp} {p : Addr} (sm : Same H H') (h : H' p = none) : H p = none := by
  cases z : H p with
  | none => rfl
  | some u =>
    have z2 := sm _ _ z
    rw [h] at z2
    cases z2
theorem near_mem (xs ys : List Nat) : nearL xs ys = 0 ∨ nearL xs ys ∈ xs := by
  unfold nearL
  have all : ∀ (xs ys : List Nat) (c : Nat), (xs.zip ys).foldl (fun a p => if p.1 = p.2 then p.1 else a) c = c ∨ (xs.zip ys).foldl (fun a p => if p.1 = p.2 then p.1 else a) c ∈ xs := by
    intro xs
    induction xs with
    | nil =>
      intro ys c
      exact .inl (by simp)
    | cons x r ih =>
      intro ys c
      cases ys with
      | nil => exact .inl (by simp)
      | cons y s =>
        simp only [List.zip_cons_cons, List.foldl_cons]
        by_cases e : x = y
        · rw [if_pos e]
          rcases ih s x with h | h
          · exact .inr (by rw [h]; exact List.mem_cons_self)
          · exact .inr (List.mem_cons_of_mem _ h)
        · rw [if_neg e]
          rcases ih s c with h | h
          · exact .inl h
          · exact .inr (List.mem_cons_of_mem _ h)
  exact all xs ys 0
theorem near_on {ow : List Nat} (h : Low ow) (i j : Nat) : nearL (line ow i) (line ow j) ∈ line ow i := by
  rcases near_mem (line ow i) (line ow j) with e | e
  · rw [e]
    exact zero_mem h i
  · exact e
theorem near_on2 {ow : List Nat} (h : Low ow) (i j : Nat) : nearL (line ow i) (line ow j) ∈ line ow j := by
  rw [near_comm]
  exact near_on h j i
theorem near_le {ow : List Nat} (h : Low ow) (i j : Nat) : nearL (line ow i) (line ow j) ≤ i := by
  rcases near_mem (line ow i) (line ow j) with e | e
  · omega
  · exact line_le h i _ e
theorem Tr.same {H H' : Hp} {t C : Addr} {ow ds : List Nat} (tr : Tr H t C ow ds) (sm : Same H H') : Tr H' t C ow ds := by
  obtain ⟨dx, o, d, n, fs, e1, l1, l2, l3, nl, e2, e3, lf⟩ := tr.ex
  exact ⟨⟨dx, o, d, n, fs, sm _ _ e1, l1, l2, l3, nl, sm _ _ e2, sm _ _ e3, lf⟩, tr.low, tr.few, tr.deep⟩
/-- a tree with what is its own: nothing outside N is written -/
structure Tw (N : Addr → Prop) (H : Hp) (t C : Addr) (ow : List Nat) : Prop where
  ex : ∃ (dx o d n : Addr) (fs : List (Str × V)) (ns : List Addr), H t = some (.ins C dx fs) ∧ fs.lookup ("_owns" : Str) = some (.ref o) ∧ fs.lookup ("_depths" : Str) = some (.ref d) ∧ fs.lookup ("_on" : Str) = some (.ref n) ∧
    (∀ m, m ∉ fields → fs.lookup m = none) ∧ H o = some (.lst (.non :: ow.map num)) ∧ H d = some (.lst ((depths ow).map num)) ∧ H n = some (.lst (ns.map V.ref)) ∧ fs.length < 1000 ∧
    ns.length = ow.length + 1 ∧ o ≠ d ∧ o ≠ n ∧ d ≠ n ∧ (∀ a ∈ ns, (∃ ks, H a = some (.lst ks) ∧ ks.length ≤ ow.length) ∧ a ≠ o ∧ a ≠ d ∧ a ≠ n ∧ N a) ∧ N o ∧ N d ∧ N n
  low : Low ow
  few : ow.length ≤ 63
theorem Tw.tr {N : Addr → Prop} {H : Hp} {t C : Addr} {ow : List Nat} (w : Tw N H t C ow) : Tr H t C ow (depths ow) := by
  obtain ⟨dx, o, d, n, fs, ns, e1, l1, l2, l3, nl, e2, e3, e4, lf, _⟩ := w.ex
  exact ⟨⟨dx, o, d, n, fs, e1, l1, l2, l3, nl, e2, e3, lf⟩, w.low, w.few, rfl⟩
def spGrow (C : Addr) : Sp := fun vs H Q _ => ∃ (t : Addr) (ow : List Nat) (i : Nat) (N : Addr → Prop), vs = [.ref t, num i] ∧ Tw N H t C ow ∧ i ≤ ow.length ∧ ow.length < 63 ∧
  ∀ (H' : Hp) (N' : Addr → Prop), Tw N' H' t C (ow ++ [i]) → (∀ c u, ¬ N c → H c = some u → H' c = some u) → (∀ c, N' c → N c ∨ H c = none) → Q (num (ow.length + 1)) H'
theorem fn_grow {f : Addr} {fd : FuncData} (T : Txt K mg) (TC : TreeC K C) (m_many : Met P w K mg base 1 C "many" (spMany C) []) (m__need_make : Met P w K mg base 2 C "_need_make" (spNeed C) []) (F : Fun K "grow" "MakeTree.grow" s_MakeTree_grow f fd) :
    FnOk P w K mg base CX0 3 f fd ["self", "make"] (spGrow C) := by
  refine F.ok sc_MakeTree_grow (fun vs H Q E h => ?_) (fun cdv A outer s H vs Q E hr h => ?_)
  · obtain ⟨t, ow, i, N, rfl, _⟩ := h
    rfl
  · obtain ⟨t, ow, i, N, rfl, tw, hi, hf, q⟩ := h
    obtain ⟨dx, o, d, n, fs, ns, e1, l1, l2, l3, nl, e2, e3, e4, lf, hns, od, on, dn, hin, No, Nd, Nn⟩ := tw.ex
    refine ⟨_, (pss_cons (ps_expr (pe_mt m__need_make hr (by decide) (pv 0) (pa_cons (pv 1) pa_nil)))
      (pss_cons (ps_set (i := 2) sc_MakeTree_grow.nd rfl (Or.inl rfl) (pe_mt0 m_many hr (by decide) (pv 0)))
      (pss_cons (ps_if (pt_cmpR op_ge (pv 2) (pe_gi rfl T.g_MOST_MAKES) (nomark _))
          (pss_one ps_never) pss_nil)
      (pss_cons (ps_expr (pe_bm PySem.F.plainAttrs_list PySem.F.slot_list_append PySem.F.type_list_append mt_append (pe_fld (pv 0) rfl) (pa_cons (pv 1) pa_nil)))
      (pss_cons (ps_expr (pe_bm PySem.F.plainAttrs_list PySem.F.slot_list_append PySem.F.type_list_append mt_append (pe_fld (pv 0) rfl) (pa_cons (pe_op op_add (pe_ix ix_list (pe_fld (pv 0) rfl) (pv 1) (fun _ _ => rfl)) pe_int) pa_nil)))
      (pss_cons (ps_expr (pe_bm PySem.F.plainAttrs_list PySem.F.slot_list_append PySem.F.type_list_append mt_append (pe_fld (pv 0) rfl) (pa_cons (pe_lst pa_nil) pa_nil)))
      (pss_cons (ps_expr (pe_bm PySem.F.plainAttrs_list PySem.F.slot_list_append PySem.F.type_list_append mt_append (pe_ix ix_list (pe_fld (pv 0) rfl) (pv 1) (fun _ _ => rfl)) (pa_cons (pv 2) pa_nil)))
      (pss_one (ps_ret (pv 2)))))))))), ?_⟩
    refine ⟨_, rfl, t, dx, fs, rfl, e1, nl _ (by decide), _, rfl, t, ow, _, i, rfl, tw.tr, hi, ?_⟩
    refine ⟨_, rfl, t, dx, fs, rfl, e1, nl _ (by decide), t, ow, _, rfl, tw.tr, ?_⟩
    refine ⟨_, rfl, _, _, rfl, rfl, _, rfl, ?_⟩
    have hlt : ¬ ((64 : Int) ≤ ((ow.length + 1 : Nat) : Int)) := by omega
    rw [show decide ((64 : Int) ≤ ((ow.length + 1 : Nat) : Int)) = false from decide_eq_false hlt]
    refine iteF ?_
    have hto : t ≠ o := fun e => by rw [e, e2] at e1; cases e1
    have htd : t ≠ d := fun e => by rw [e, e3] at e1; cases e1
    have htn : t ≠ n := fun e => by rw [e, e4] at e1; cases e1
    have len1 : (V.non :: ow.map num).length < sizeLine := small1000 (by rw [List.length_cons, List.length_map]; omega)
    have len2 : ((depths ow).map num).length < sizeLine := small1000 (by unfold depths; rw [List.length_map, List.length_map, List.length_range]; omega)
    have len3 : (ns.map V.ref).length < sizeLine := small1000 (by rw [List.length_map]; omega)
    refine ⟨_, rfl, t, C, dx, fs, .ref o, rfl, e1, TC.cl, TC.n_owns, l1, .inl ⟨rfl, _, SqL.of e2⟩, _, rfl, o, _, _, rfl, rfl, e2, len1, ?_⟩
    have f1 : (upd H o (.lst ((V.non :: ow.map num) ++ [num i]))) t = some (.ins C dx fs) := (upd_ne hto).trans e1
    have f3 : (upd H o (.lst ((V.non :: ow.map num) ++ [num i]))) d = some (.lst ((depths ow).map num)) := (upd_ne od.symm).trans e3
    refine ⟨_, rfl, t, C, dx, fs, .ref d, rfl, f1, TC.cl, TC.n_depths, l2, .inl ⟨rfl, _, SqL.of f3⟩, _, rfl, t, C, dx, fs, .ref d, rfl, f1, TC.cl, TC.n_depths, l2, _, rfl, d, _, _, _, rfl, rfl, SqL.of f3, depths_at hi, _, _, rfl, rfl, d, _, _, rfl, rfl, f3, len2, ?_⟩
    have hpos : 0 < (line ow i).length := by
      obtain ⟨us, hu, _⟩ := line_last tw.low i
      rw [hu, List.length_append]
      exact Nat.succ_pos _
    have ev : (V.int ((((line ow i).length - 1 : Nat) : Int) + 1)) = num (line ow i).length := by
      show V.int _ = V.int _
      congr 1
      omega
    show (fun H2 => _) (upd (upd H o (.lst ((V.non :: ow.map num) ++ [num i]))) d (.lst ((depths ow).map num ++ [V.int ((((line ow i).length - 1 : Nat) : Int) + 1)])))
    rw [ev]
    have g_o : (upd (upd H o (.lst ((V.non :: ow.map num) ++ [num i]))) d (.lst ((depths ow).map num ++ [num (line ow i).length]))) o = some (.lst (.non :: (ow ++ [i]).map num)) := by
      rw [upd_ne od, upd_same, List.map_append]
      rfl
    have g_d : (upd (upd H o (.lst ((V.non :: ow.map num) ++ [num i]))) d (.lst ((depths ow).map num ++ [num (line ow i).length]))) d = some (.lst ((depths (ow ++ [i])).map num)) := by
      rw [upd_same, depths_more tw.low hi, List.map_append]
      rfl
    have g_k : ∀ c u, c ≠ o → c ≠ d → H c = some u → (upd (upd H o (.lst ((V.non :: ow.map num) ++ [num i]))) d (.lst ((depths ow).map num ++ [num (line ow i).length]))) c = some u := fun c u h1 h2 z => by
      rw [upd_ne h2, upd_ne h1]
      exact z
    have g_n : ∀ c, (upd (upd H o (.lst ((V.non :: ow.map num) ++ [num i]))) d (.lst ((depths ow).map num ++ [num (line ow i).length]))) c = none → H c = none := fun c z => upd_none (upd_none z)
    generalize upd (upd H o (.lst ((V.non :: ow.map num) ++ [num i]))) d (.lst ((depths ow).map num ++ [num (line ow i).length])) = H2 at *
    have h2t := g_k _ _ hto htd e1
    have h2n := g_k _ _ on.symm dn.symm e4
    refine ⟨_, rfl, t, C, dx, fs, .ref n, rfl, h2t, TC.cl, TC.n_on, l3, .inl ⟨rfl, _, SqL.of h2n⟩, (by show 0 ≤ sizeLine; decide), fun p hp => ?_⟩
    refine ⟨n, _, _, rfl, rfl, kep h2n hp, len3, ?_⟩
    have hpo : p ≠ o := fun e => by rw [e, g_o] at hp; cases hp
    have hpd : p ≠ d := fun e => by rw [e, g_d] at hp; cases hp
    have hpn : p ≠ n := fun e => by rw [e, h2n] at hp; cases hp
    have hpt : p ≠ t := fun e => by rw [e, h2t] at hp; cases hp
    have hi2 : i < ns.length := by omega
    obtain ⟨b, hb⟩ : ∃ b, ns[i]? = some b := ⟨_, List.getElem?_eq_getElem hi2⟩
    have hbm := List.mem_of_getElem? hb
    obtain ⟨⟨ks, hks, hkl⟩, bo, bd, bn, Nb⟩ := hin b hbm
    have hbt : b ≠ t := fun e => by rw [e, e1] at hks; cases hks
    have h2b := g_k _ _ bo bd hks
    have hbp : b ≠ p := fun e => by rw [e, hp] at h2b; cases h2b
    have h3n : (upd (upd H2 p (.lst [])) n (.lst (ns.map V.ref ++ [V.ref p]))) n = some (.lst ((ns ++ [p]).map V.ref)) := by
      rw [upd_same, List.map_append]
      rfl
    have h3t : (upd (upd H2 p (.lst [])) n (.lst (ns.map V.ref ++ [V.ref p]))) t = some (.ins C dx fs) := by
      rw [upd_ne htn, upd_ne hpt.symm]
      exact h2t
    have h3b : (upd (upd H2 p (.lst [])) n (.lst (ns.map V.ref ++ [V.ref p]))) b = some (.lst ks) := by
      rw [upd_ne bn, upd_ne hbp]
      exact h2b
    have h3p : (upd (upd H2 p (.lst [])) n (.lst (ns.map V.ref ++ [V.ref p]))) p = some (.lst []) := by
      rw [upd_ne hpn, upd_same]
    have h3k : ∀ c u, c ≠ n → c ≠ p → H2 c = some u → (upd (upd H2 p (.lst [])) n (.lst (ns.map V.ref ++ [V.ref p]))) c = some u := fun c u h1 h2 z => by
      rw [upd_ne h1, upd_ne h2]
      exact z
    generalize upd (upd H2 p (.lst [])) n (.lst (ns.map V.ref ++ [V.ref p])) = H3 at *
    have hat : atI ((ns ++ [p]).map V.ref) ((i : Nat) : Int) = some (V.ref b) := by
      refine atI_nat ?_
      rw [List.getElem?_map, List.getElem?_append_left hi2, hb]
      rfl
    refine ⟨_, rfl, t, C, dx, fs, .ref n, rfl, h3t, TC.cl, TC.n_on, l3, _, rfl, n, _, _, _, rfl, rfl, SqL.of h3n, hat, .inl ⟨rfl, _, SqL.of h3b⟩, _, rfl, b, _, _, rfl, rfl, h3b, small1000 (by omega), ?_⟩
    refine ⟨_, rfl, q _ (fun c => N c ∨ c = p) ⟨⟨dx, o, d, n, fs, ns ++ [p], ?_, l1, l2, l3, nl, ?_, ?_, ?_, lf, ?_, od, on, dn, fun c hc => ?_, .inl No, .inl Nd, .inl Nn⟩, low_more tw.low hi, ?_⟩ (fun c u hc z => ?_) fun c hc => ?_⟩
    · rw [upd_ne hbt.symm]
      exact h3t
    · rw [upd_ne bo.symm]
      exact h3k _ _ on hpo.symm g_o
    · rw [upd_ne bd.symm]
      exact h3k _ _ dn hpd.symm g_d
    · rw [upd_ne bn.symm]
      exact h3n
    · rw [List.length_append, List.length_append, hns]
      rfl
    · rcases List.mem_append.mp hc with hc | hc
      · obtain ⟨⟨ls, hls, hll⟩, co, cd, cn, Nc⟩ := hin c hc
        refine ⟨?_, co, cd, cn, .inl Nc⟩
        rw [List.length_append]
        by_cases e : c = b
        · subst e
          rw [hks] at hls
          cases hls
          refine ⟨_, upd_same, ?_⟩
          rw [List.length_append]
          exact Nat.add_le_add_right hll 1
        · refine ⟨ls, ?_, Nat.le_succ_of_le hll⟩
          rw [upd_ne e]
          have h2c := g_k _ _ co cd hls
          exact h3k _ _ cn (fun z => by rw [z, hp] at h2c; cases h2c) h2c
      · rw [List.mem_singleton.mp hc]
        refine ⟨⟨[], ?_, Nat.zero_le _⟩, hpo, hpd, hpn, .inr rfl⟩
        rw [upd_ne hbp.symm]
        exact h3p
    · rw [List.length_append]
      show ow.length + 1 ≤ 63
      omega
    · have c1 : c ≠ o := fun e => hc (e ▸ No)
      have c2 : c ≠ d := fun e => hc (e ▸ Nd)
      have c3 : c ≠ n := fun e => hc (e ▸ Nn)
      have c4 : c ≠ b := fun e => hc (e ▸ Nb)
      have h2c := g_k _ _ c1 c2 z
      rw [upd_ne c4]
      exact h3k _ _ c3 (fun z => by rw [z, hp] at h2c; cases h2c) h2c
    · rcases hc with hc | hc
      · exact .inl hc
      · rw [hc]
        exact .inr (g_n _ hp)
theorem ok_grow (T : Txt K mg) (TC : TreeC K C) (m_many : Met P w K mg base 1 C "many" (spMany C) []) (m__need_make : Met P w K mg base 2 C "_need_make" (spNeed C) []) (M : MAt K C "grow" "MakeTree.grow" s_MakeTree_grow ["self", "make"]) :
    Met P w K mg base 3 C "grow" (spGrow C) [] := by
  obtain ⟨f, fd, F, me, b⟩ := M.ex
  exact ⟨f, fd, _, [], TC.cl, me, fn_grow T TC m_many m__need_make F, b, .nil⟩
def spInit (C : Addr) : Sp := fun vs H Q _ => ∃ (t dx : Addr), vs = [.ref t] ∧ H t = some (.ins C dx []) ∧
  ∀ (H' : Hp) (N' : Addr → Prop), Tw N' H' t C [] → (∃ fs, H' t = some (.ins C dx fs) ∧ fs.length ≤ 3 ∧ fs.lookup ("_leaps" : Str) = none) → (∀ c u, c ≠ t → H c = some u → H' c = some u) → (∀ c, N' c → H c = none) → Q .non H'
theorem fn_init {f : Addr} {fd : FuncData} (T : Txt K mg) (TC : TreeC K C) (F : Fun K "__init__" "MakeTree.__init__" s_MakeTree___init__ f fd) : FnOk P w K mg base CX0 1 f fd ["self"] (spInit C) := by
  refine F.ok sc_MakeTree___init__ (fun vs H Q E h => ?_) (fun cdv A outer s H vs Q E hr h => ?_)
  · obtain ⟨t, dx, rfl, _⟩ := h
    rfl
  · obtain ⟨t, dx, rfl, e1, q⟩ := h
    refine ⟨_, (pss_cons (ps_fld (pv 0) (pe_lst (pa_cons pe_non pa_nil)) rfl)
      (pss_cons (ps_fld (pv 0) (pe_lst (pa_cons pe_int pa_nil)) rfl)
      (pss_one (ps_fld (pv 0) (pe_lst (pa_cons (pe_lst pa_nil) pa_nil)) rfl)))), ?_⟩
    refine ⟨(by show 1 ≤ sizeLine; decide), fun o ho => ?_⟩
    have hto : t ≠ o := fun e => by rw [← e, e1] at ho; cases ho
    refine ⟨_, rfl, t, C, dx, [], rfl, kep e1 ho, TC.cl, TC.n_owns, by decide, ?_⟩
    have k1 : ∀ c u, c ≠ t → H c = some u → (upd (upd H o (.lst [V.non])) t (.ins C dx (putF "_owns" (.ref o) []))) c = some u := fun c u h z => by
      rw [upd_ne h]
      exact kep z ho
    have n1 : ∀ c, (upd (upd H o (.lst [V.non])) t (.ins C dx (putF "_owns" (.ref o) []))) c = none → H c = none := fun c z => upd_none (upd_none z)
    have a1t : (upd (upd H o (.lst [V.non])) t (.ins C dx (putF "_owns" (.ref o) []))) t = some (.ins C dx (putF "_owns" (.ref o) [])) := upd_same
    have a1o : (upd (upd H o (.lst [V.non])) t (.ins C dx (putF "_owns" (.ref o) []))) o = some (.lst [V.non]) := by
      rw [upd_ne hto.symm, upd_same]
    generalize hA1 : upd (upd H o (.lst [V.non])) t (.ins C dx (putF "_owns" (.ref o) [])) = A1 at *
    refine ⟨(by show 1 ≤ sizeLine; decide), fun d hd => ?_⟩
    have htd : t ≠ d := fun e => by rw [← e, a1t] at hd; cases hd
    have hod : o ≠ d := fun e => by rw [← e, a1o] at hd; cases hd
    have p1 : (putF "_owns" (.ref o) ([] : List (Str × V))).length ≤ 1 := length_putF _ _ _
    refine ⟨_, rfl, t, C, dx, _, rfl, kep a1t hd, TC.cl, TC.n_depths, Nat.lt_of_le_of_lt p1 (by decide), ?_⟩
    have k2 : ∀ c u, c ≠ t → A1 c = some u → (upd (upd A1 d (.lst [V.int 0])) t (.ins C dx (putF "_depths" (.ref d) (putF "_owns" (.ref o) [])))) c = some u := fun c u h z => by
      rw [upd_ne h]
      exact kep z hd
    have n2 : ∀ c, (upd (upd A1 d (.lst [V.int 0])) t (.ins C dx (putF "_depths" (.ref d) (putF "_owns" (.ref o) [])))) c = none → A1 c = none := fun c z => upd_none (upd_none z)
    have a2t : (upd (upd A1 d (.lst [V.int 0])) t (.ins C dx (putF "_depths" (.ref d) (putF "_owns" (.ref o) [])))) t = some (.ins C dx (putF "_depths" (.ref d) (putF "_owns" (.ref o) []))) := upd_same
    have a2d : (upd (upd A1 d (.lst [V.int 0])) t (.ins C dx (putF "_depths" (.ref d) (putF "_owns" (.ref o) [])))) d = some (.lst [V.int 0]) := by
      rw [upd_ne htd.symm, upd_same]
    have a2o := k2 _ _ hto.symm a1o
    generalize hA2 : (upd (upd A1 d (.lst [V.int 0])) t (.ins C dx (putF "_depths" (.ref d) (putF "_owns" (.ref o) [])))) = A2 at *
    refine ⟨(by show 0 ≤ sizeLine; decide), fun a ha => ⟨(by show 1 ≤ sizeLine; decide), fun n hn => ?_⟩⟩
    have hn2 : A2 n = none := upd_none hn
    have hta : t ≠ a := fun e => by rw [← e, a2t] at ha; cases ha
    have htn : t ≠ n := fun e => by rw [← e, a2t] at hn2; cases hn2
    have hda : d ≠ a := fun e => by rw [← e, a2d] at ha; cases ha
    have hdn : d ≠ n := fun e => by rw [← e, a2d] at hn2; cases hn2
    have hoa : o ≠ a := fun e => by rw [← e, a2o] at ha; cases ha
    have hon : o ≠ n := fun e => by rw [← e, a2o] at hn2; cases hn2
    have han : a ≠ n := fun e => by
      rw [← e, upd_same] at hn
      cases hn
    have p2 : (putF "_depths" (.ref d) (putF "_owns" (.ref o) ([] : List (Str × V)))).length ≤ 2 := Nat.le_trans (length_putF _ _ _) (Nat.succ_le_succ p1)
    refine ⟨_, rfl, t, C, dx, _, rfl, kep (kep a2t ha) hn, TC.cl, TC.n_on, Nat.lt_of_le_of_lt p2 (by decide), ?_⟩
    have p3 : (putF "_on" (.ref n) (putF "_depths" (.ref d) (putF "_owns" (.ref o) ([] : List (Str × V))))).length ≤ 3 := Nat.le_trans (length_putF _ _ _) (Nat.succ_le_succ p2)
    have k3 : ∀ c u, c ≠ t → A2 c = some u → (upd (upd (upd A2 a (.lst [])) n (.lst [V.ref a])) t (.ins C dx (putF "_on" (.ref n) (putF "_depths" (.ref d) (putF "_owns" (.ref o) []))))) c = some u := fun c u h z => by
      rw [upd_ne h]
      exact kep (kep z ha) hn
    have a3t : (upd (upd (upd A2 a (.lst [])) n (.lst [V.ref a])) t (.ins C dx (putF "_on" (.ref n) (putF "_depths" (.ref d) (putF "_owns" (.ref o) []))))) t = some (.ins C dx (putF "_on" (.ref n) (putF "_depths" (.ref d) (putF "_owns" (.ref o) [])))) := upd_same
    have a3n : (upd (upd (upd A2 a (.lst [])) n (.lst [V.ref a])) t (.ins C dx (putF "_on" (.ref n) (putF "_depths" (.ref d) (putF "_owns" (.ref o) []))))) n = some (.lst [V.ref a]) := by
      rw [upd_ne htn.symm, upd_same]
    have a3a : (upd (upd (upd A2 a (.lst [])) n (.lst [V.ref a])) t (.ins C dx (putF "_on" (.ref n) (putF "_depths" (.ref d) (putF "_owns" (.ref o) []))))) a = some (.lst []) := by
      rw [upd_ne hta.symm, upd_ne han, upd_same]
    refine q _ (fun c => c = o ∨ c = d ∨ c = n ∨ c = a) ⟨⟨dx, o, d, n, _, [a], a3t, ?_, ?_, ?_, fun m hm => ?_, k3 _ _ hto.symm a2o, k3 _ _ htd.symm a2d, a3n, Nat.lt_of_le_of_lt p3 (by decide), rfl, hod, hon, hdn, fun c hc => ?_, .inl rfl, .inr (.inl rfl), .inr (.inr (.inl rfl))⟩, (fun _ _ z => nomatch z), Nat.zero_le _⟩ ⟨_, a3t, p3, ?_⟩ (fun c u hc z => k3 _ _ hc (k2 _ _ hc (k1 _ _ hc z))) fun c hc => ?_
    · rw [lookup_putF, if_neg (by decide), lookup_putF, if_neg (by decide), lookup_putF, if_pos rfl]
    · rw [lookup_putF, if_neg (by decide), lookup_putF, if_pos rfl]
    · rw [lookup_putF, if_pos rfl]
    · have hm2 : m ≠ "_on" ∧ m ≠ "_depths" ∧ m ≠ "_owns" := ⟨fun e => hm (by rw [e]; decide), fun e => hm (by rw [e]; decide), fun e => hm (by rw [e]; decide)⟩
      rw [lookup_putF, if_neg hm2.1, lookup_putF, if_neg hm2.2.1, lookup_putF, if_neg hm2.2.2]
      rfl
    · rw [List.mem_singleton.mp hc]
      exact ⟨⟨[], a3a, Nat.zero_le _⟩, hoa.symm, hda.symm, han, .inr (.inr (.inr rfl))⟩
    · rw [lookup_putF, if_neg (by decide), lookup_putF, if_neg (by decide), lookup_putF, if_neg (by decide)]
      rfl
    · rcases hc with rfl | rfl | rfl | rfl
      · exact ho
      · exact n1 _ hd
      · exact n1 _ (n2 _ hn2)
      · exact n1 _ (n2 _ ha)
end
end K10
set_option maxHeartbeats 1000000
namespace K10
open PySem PySem.Spec PyProof.Rows L2 Gd Gs
open C8 (clsBody Met pe_mt pe_mt0)
def dep (ow : List Nat) (i : Nat) : Nat := (line ow i).length - 1
theorem line_pos {ow : List Nat} (h : Low ow) (i : Nat) : 0 < (line ow i).length := by
  obtain ⟨us, hu, _⟩ := line_last h i
  rw [hu, List.length_append]
  exact Nat.succ_pos _
theorem dep_len {ow : List Nat} (h : Low ow) (i : Nat) : (line ow i).length = dep ow i + 1 := by
  have := line_pos h i
  unfold dep
  omega
theorem at_line {ow : List Nat} (h : Low ow) : ∀ (i j x : Nat), (line ow i)[j]? = some x → line ow x = (line ow i).take (j + 1) := by
  intro i
  induction i using Nat.strongRecOn with
  | _ i ih =>
    intro j x hx
    by_cases h0 : 0 < i
    · rw [line_step h h0] at hx ⊢
      by_cases hj : j < (line ow (par ow i)).length
      · rw [List.getElem?_append_left hj] at hx
        rw [ih _ (par_lt h h0) j x hx, List.take_append_of_le_length (by omega)]
      · rw [List.getElem?_append_right (by omega)] at hx
        by_cases hz : j - (line ow (par ow i)).length = 0
        · rw [hz] at hx
          have e : i = x := Option.some.inj hx
          subst e
          rw [List.take_of_length_le, line_step h h0]
          rw [List.length_append]
          show _ + 1 ≤ _
          omega
        · rw [List.getElem?_eq_none (by show 1 ≤ _; omega)] at hx
          cases hx
    · have e : i = 0 := by omega
      subst e
      rw [line_zero] at hx ⊢
      cases j with
      | zero =>
        have e : 0 = x := Option.some.inj hx
        subst e
        rfl
      | succ j => cases hx
/-- the make so many steps above -/
def upL (ow : List Nat) (i s : Nat) : Nat := (line ow i).getD (dep ow i - s) 0
theorem up_at {ow : List Nat} (low : Low ow) (i s : Nat) : (line ow i)[dep ow i - s]? = some (upL ow i s) := by
  have hl := dep_len low i
  unfold upL
  rw [List.getD_eq_getElem?_getD]
  have h2 : dep ow i - s < (line ow i).length := by omega
  rw [List.getElem?_eq_getElem h2]
  rfl
theorem up_le {ow : List Nat} (low : Low ow) (i s : Nat) : upL ow i s ≤ i := line_le low i _ (List.mem_of_getElem? (up_at low i s))
theorem dep_up {ow : List Nat} (low : Low ow) {i s : Nat} (hs : s ≤ dep ow i) : dep ow (upL ow i s) = dep ow i - s := by
  have e := at_line low i _ _ (up_at low i s)
  have hl := dep_len low i
  unfold dep at *
  rw [e, List.length_take]
  omega
theorem up_up {ow : List Nat} (low : Low ow) {i a b : Nat} (h : a + b ≤ dep ow i) : upL ow (upL ow i a) b = upL ow i (a + b) := by
  have e := at_line low i _ _ (up_at low i a)
  have hd := dep_up low (by omega : a ≤ dep ow i)
  have hl := dep_len low i
  unfold upL at hd e ⊢
  rw [hd, e, List.getD_eq_getElem?_getD, List.getD_eq_getElem?_getD, List.getElem?_take, if_pos (by omega)]
  congr 2
  omega
def nb (d : Nat) : Nat := if d = 0 then 0 else d.log2 + 1
theorem nb_lt {d k : Nat} : k < nb d ↔ 2 ^ k ≤ d := by
  unfold nb
  by_cases e : d = 0
  · rw [if_pos e, e]
    have : 0 < 2 ^ k := Nat.two_pow_pos k
    omega
  · rw [if_neg e, ← Nat.le_log2 e]
    omega
def leapsL (ow : List Nat) (i : Nat) : List Nat := (List.range (nb (dep ow i))).map fun k => upL ow i (2 ^ k)
theorem leaps_len (ow : List Nat) (i : Nat) : (leapsL ow i).length = nb (dep ow i) := by
  unfold leapsL
  rw [List.length_map, List.length_range]
theorem leaps_at {ow : List Nat} {i k : Nat} (h : 2 ^ k ≤ dep ow i) : (leapsL ow i)[k]? = some (upL ow i (2 ^ k)) := by
  unfold leapsL
  rw [List.getElem?_map, List.getElem?_range (nb_lt.mpr h)]
  rfl
theorem nb_few {d : Nat} (h : d ≤ 63) : nb d ≤ 6 := by
  by_cases z : nb d ≤ 6
  · exact z
  · have := (nb_lt (d := d) (k := 6)).mp (by omega)
    omega
theorem dep_le {ow : List Nat} (h : Low ow) (i : Nat) : dep ow i ≤ i := by
  have := line_len h i
  unfold dep
  omega
theorem line_more' {ow : List Nat} (h : Low ow) {k : Nat} (hk : k ≤ ow.length) {x : Nat} (hx : x ≤ ow.length) : leapsL (ow ++ [k]) x = leapsL ow x := by
  unfold leapsL upL dep
  rw [line_more h hk x hx]
/-- the leaps of a new make -/
theorem leaps_new {ow : List Nat} (h : Low ow) {own k : Nat} (hk : own ≤ ow.length) (h1 : 2 ^ k ≤ dep ow own + 1) (h2 : ¬ 2 ^ (k + 1) ≤ dep ow own + 1) :
    leapsL (ow ++ [own]) (ow.length + 1) = (List.range (k + 1)).map fun j => upL ow own (2 ^ j - 1) := by
  have hl : line (ow ++ [own]) (ow.length + 1) = line ow own ++ [ow.length + 1] := line_new h hk
  have hd : dep (ow ++ [own]) (ow.length + 1) = dep ow own + 1 := by
    have := dep_len h own
    unfold dep at *
    rw [hl, List.length_append]
    show _ + 1 - 1 = _
    omega
  have hn : nb (dep ow own + 1) = k + 1 := by
    have a := (nb_lt (d := dep ow own + 1) (k := k)).mpr h1
    have b : ¬ k + 1 < nb (dep ow own + 1) := fun z => h2 (nb_lt.mp z)
    omega
  unfold leapsL
  rw [hd, hn]
  refine List.map_congr_left fun j hj => ?_
  have hj2 := List.mem_range.mp hj
  have hp : 0 < 2 ^ j := Nat.two_pow_pos j
  have hle : 2 ^ j ≤ dep ow own + 1 := Nat.le_trans (Nat.pow_le_pow_right (by decide) (by omega)) h1
  have hlen := dep_len h own
  unfold upL
  rw [hd, hl, List.getD_eq_getElem?_getD, List.getD_eq_getElem?_getD, List.getElem?_append_left (by omega)]
  congr 2
  omega
/-- the lists of leaps -/
structure Lv (N : Addr → Prop) (H : Hp) (q : Addr) (ow : List Nat) : Prop where
  ex : ∃ ls : List Addr, H q = some (.lst (ls.map V.ref)) ∧ ls.length = ow.length + 1 ∧ N q ∧
    ∀ (i : Nat) (a : Addr), ls[i]? = some a → N a ∧ a ≠ q ∧ H a = some (.lst ((leapsL ow i).map num))
/-- a tree that leaps -/
structure Lw (C : Addr) (N : Addr → Prop) (H : Hp) (t : Addr) (ow : List Nat) : Prop where
  ex : ∃ (N1 N2 : Addr → Prop) (dx q : Addr) (fs : List (Str × V)), Tw N1 H t C ow ∧ H t = some (.ins C dx fs) ∧ fs.lookup ("_leaps" : Str) = some (.ref q) ∧ Lv N2 H q ow ∧
    (∀ c, N1 c → N2 c → False) ∧ (∀ c, N1 c → N c) ∧ (∀ c, N2 c → N c)
theorem Lw.tr {C t : Addr} {N : Addr → Prop} {H : Hp} {ow : List Nat} (l : Lw C N H t ow) : Tr H t C ow (depths ow) := by
  obtain ⟨N1, N2, dx, q, fs, tw, _⟩ := l.ex
  exact tw.tr
section
variable {P : Program} {w : World} {K : PySem.W.Frag} {mg : Str → Option Value} {base : Heap} {C : Addr}
def spThrough (C : Addr) : Sp := fun vs H Q _ => ∃ (t dx q : Addr) (fs : List (Str × V)) (ow : List Nat) (own : Nat) (N : Addr → Prop), vs = [.ref t, num own] ∧ H t = some (.ins C dx fs) ∧ fs.lookup ("_leaps" : Str) = some (.ref q) ∧ Lv N H q ow ∧
  Low ow ∧ own ≤ ow.length ∧ ow.length < 63 ∧ ∀ (p : Addr) (H' : Hp), H p = none → Same H H' → H' p = some (.lst ((leapsL (ow ++ [own]) (ow.length + 1)).map num)) → Q (.ref p) H'
theorem ok_through (T : Txt K mg) (TC : TreeC K C) (M : MAt K C "_leaps_through" "LeapTree._leaps_through" s_LeapTree__leaps_through ["self", "own"]) : Met P w K mg base 1 C "_leaps_through" (spThrough C) [] := by
  refine M.met TC.cl sc_LeapTree__leaps_through (fun vs H Q E h => ?_) (fun f cdv A outer s H vs Q E hr h => ?_)
  · obtain ⟨t, dx, q, fs, ow, own, N, rfl, _⟩ := h
    rfl
  · obtain ⟨t, dx, q, fs, ow, own, N, rfl, e1, l1, lv, low, ho, hn, qq⟩ := h
    obtain ⟨ls, e2, hl, Nq, hls⟩ := lv.ex
    have hdo := dep_le low own
    refine ⟨_, (pss_cons (ps_set (i := 2) sc_LeapTree__leaps_through.nd rfl (Or.inl rfl) (pe_lst (pa_cons (pv 1) pa_nil)))
      (pss_cons (ps_while PassesOwn.never (pt_cmpR op_ge (pe_callB call_len (by rfl) T.b_len boot_len_ (pa_cons (pe_ix ix_list (pe_fld (pv 0) rfl) (pe_ix ix_list (pv 2) (pe_un un_neg pe_int) (fun _ _ => rfl)) (fun _ _ => rfl)) pa_nil)) (pe_callB call_len (by rfl) T.b_len boot_len_ (pa_cons (pv 2) pa_nil)) (nomark _))
          (pss_one (ps_expr (pe_bm PySem.F.plainAttrs_list PySem.F.slot_list_append PySem.F.type_list_append mt_append (pv 2) (pa_cons (pe_ix ix_list (pe_ix ix_list (pe_fld (pv 0) rfl) (pe_ix ix_list (pv 2) (pe_un un_neg pe_int) (fun _ _ => rfl)) (fun _ _ => rfl)) (pe_op op_sub (pe_callB call_len (by rfl) T.b_len boot_len_ (pa_cons (pv 2) pa_nil)) pe_int) (fun _ _ => rfl)) pa_nil)))))
      (pss_one (ps_ret (pv 2))))), ?_⟩
    refine ⟨_, rfl, (by show 1 ≤ sizeLine; decide), fun l hl0 => ?_⟩
    have e0 : [num own] = ((List.range 1).map fun j => upL ow own (2 ^ j - 1)).map num := by
      show [num own] = [num (upL ow own 0)]
      have h1 := up_at low own 0
      have h2 : (line ow own)[dep ow own - 0]? = some own := by
        obtain ⟨us, hu, _⟩ := line_last low own
        have := dep_len low own
        rw [hu, List.length_append] at this
        have e3 : dep ow own - 0 = us.length := by
          have e4 : ([own] : List Nat).length = 1 := rfl
          rw [e4] at this
          omega
        rw [e3, hu, List.getElem?_append_right (Nat.le_refl _), Nat.sub_self]
        rfl
      rw [h1] at h2
      rw [Option.some.inj h2]
    refine ⟨fun m σ H' => Same H H' ∧ ∃ k : Nat, m = 64 - k ∧ 2 ^ k ≤ dep ow own + 1 ∧ σ = [some (.ref t), some (num own), some (.ref l)] ∧ H' l = some (.lst (((List.range (k + 1)).map fun j => upL ow own (2 ^ j - 1)).map num)), ⟨64, same_new hl0, 0, rfl, by omega, rfl, (by rw [upd_same]; exact congrArg _ (congrArg _ e0))⟩, ?_⟩
    rintro m σ H' ⟨sm, k, rfl, hk, rfl, hL⟩
    have hk64 : k < 64 := by
      have := Nat.lt_two_pow_self (n := k)
      omega
    have hp : 0 < 2 ^ k := Nat.two_pow_pos k
    have hlen : (((List.range (k + 1)).map fun j => upL ow own (2 ^ j - 1)).map num).length = k + 1 := by rw [List.length_map, List.length_map, List.length_range]
    have hlast : atI (((List.range (k + 1)).map fun j => upL ow own (2 ^ j - 1)).map num) (-1) = some (num (upL ow own (2 ^ k - 1))) := by
      rw [List.range_succ, List.map_append, List.map_append]
      exact atI_last _ _
    have hxle := up_le low own (2 ^ k - 1)
    have hdx := dep_up low (i := own) (s := 2 ^ k - 1) (by omega)
    obtain ⟨a, ha⟩ : ∃ a, ls[upL ow own (2 ^ k - 1)]? = some a := ⟨_, List.getElem?_eq_getElem (by omega)⟩
    obtain ⟨Na, aq, hks⟩ := hls _ a ha
    have hata : atI (ls.map V.ref) ((upL ow own (2 ^ k - 1) : Nat) : Int) = some (V.ref a) := by
      refine atI_nat ?_
      rw [List.getElem?_map, ha]
      rfl
    have hA := sm _ _ hks
    refine ⟨_, rfl, t, C, dx, fs, .ref q, rfl, sm _ _ e1, TC.cl, TC.n_leaps, l1, _, rfl, _, rfl, l, _, _, _, rfl, rfl, SqL.of hL, hlast, ?_⟩
    refine ⟨q, _, _, _, rfl, rfl, SqL.of (sm _ _ e2), hata, ?_⟩
    refine ⟨.ref a, _, rfl, .inl ⟨_, SqL.of hA, rfl⟩, ?_⟩
    refine ⟨_, rfl, .ref l, _, rfl, .inl ⟨_, SqL.of hL, rfl⟩, _, _, rfl, rfl, _, rfl, ?_⟩
    rw [hlen, List.length_map, leaps_len, hdx]
    refine ite2 (fun hge => ?_) (fun hge => ?_)
    · have h2 : k < nb (dep ow own - (2 ^ k - 1)) := by
        have := of_decide_eq_true hge
        omega
      have h3 := nb_lt.mp h2
      have h4 : 2 ^ (k + 1) ≤ dep ow own + 1 := by
        rw [Nat.pow_succ]
        omega
      have hat2 : atI ((leapsL ow (upL ow own (2 ^ k - 1))).map num) ((k : Nat) : Int) = some (num (upL ow own (2 ^ (k + 1) - 1))) := by
        refine atI_nat ?_
        rw [List.getElem?_map, leaps_at (by rw [hdx]; exact h3), up_up low (by rw [Nat.pow_succ] at h4; omega)]
        show some (num _) = some (num _)
        congr 3
        rw [Nat.pow_succ]
        omega
      refine ⟨fun σ' H'' => ∃ m', m' < 64 - k ∧ Same H H'' ∧ ∃ k : Nat, m' = 64 - k ∧ 2 ^ k ≤ dep ow own + 1 ∧ σ' = [some (.ref t), some (num own), some (.ref l)] ∧ H'' l = some (.lst (((List.range (k + 1)).map fun j => upL ow own (2 ^ j - 1)).map num)), fun σ' H'' z => z, ?_⟩
      refine ⟨_, rfl, .inl ⟨rfl, _, SqL.of hL⟩, ?_⟩
      refine ⟨_, rfl, t, C, dx, fs, .ref q, rfl, sm _ _ e1, TC.cl, TC.n_leaps, l1, _, rfl, _, rfl, l, _, _, _, rfl, rfl, SqL.of hL, hlast, ?_⟩
      refine ⟨q, _, _, _, rfl, rfl, SqL.of (sm _ _ e2), hata, ?_⟩
      refine ⟨_, rfl, .ref l, _, rfl, .inl ⟨_, SqL.of hL, rfl⟩, _, _, rfl, rfl, ?_⟩
      have ek : (((((List.range (k + 1)).map fun j => upL ow own (2 ^ j - 1)).map num).length : Nat) : Int) - 1 = ((k : Nat) : Int) := by
        rw [hlen]
        omega
      refine ⟨a, _, _, _, rfl, rfl, SqL.of hA, (by rw [ek]; exact hat2), ?_⟩
      refine ⟨l, _, _, rfl, rfl, hL, ?_, 64 - (k + 1), by omega, fun c u z => ?_, k + 1, rfl, h4, rfl, ?_⟩
      · rw [hlen]
        exact small1000 (by omega)
      · rw [upd_ne (ne_of_none z hl0)]
        exact sm c u z
      · rw [upd_same, List.range_succ (n := k + 1), List.map_append, List.map_append]
        rfl
    · have h2 : ¬ 2 ^ (k + 1) ≤ dep ow own + 1 := fun z => hge (decide_eq_true (by
        have : k < nb (dep ow own - (2 ^ k - 1)) := nb_lt.mpr (by rw [Nat.pow_succ] at z; omega)
        omega))
      refine ⟨_, rfl, qq l _ hl0 sm ?_⟩
      rw [hL, leaps_new low ho hk h2]
end
end K10
set_option maxHeartbeats 1000000
namespace K10
open PySem PySem.Spec PyProof.Rows L2 Gd Gs
open NdefX (NScope nscope_by ncx startF NF)
open C8 (clsBody Met pe_mt pe_mt0)
theorem Tw.cut {N : Addr → Prop} {H : Hp} {t C : Addr} {ow : List Nat} (w : Tw N H t C ow) : Tw (fun c => N c ∧ c ≠ t ∧ H c ≠ none) H t C ow := by
  obtain ⟨dx, o, d, n, fs, ns, e1, l1, l2, l3, nl, e2, e3, e4, lf, hns, od, on, dn, hin, No, Nd, Nn⟩ := w.ex
  refine ⟨⟨dx, o, d, n, fs, ns, e1, l1, l2, l3, nl, e2, e3, e4, lf, hns, od, on, dn, fun a ha => ?_, ⟨No, fun e => ?_, fun e => ?_⟩, ⟨Nd, fun e => ?_, fun e => ?_⟩, ⟨Nn, fun e => ?_, fun e => ?_⟩⟩, w.low, w.few⟩
  · obtain ⟨⟨ks, h1, h2⟩, a1, a2, a3, a4⟩ := hin a ha
    refine ⟨⟨ks, h1, h2⟩, a1, a2, a3, a4, fun e => ?_, fun e => ?_⟩
    · rw [e, e1] at h1
      cases h1
    · rw [e] at h1
      cases h1
  · rw [e, e1] at e2
    cases e2
  · rw [e] at e2
    cases e2
  · rw [e, e1] at e3
    cases e3
  · rw [e] at e3
    cases e3
  · rw [e, e1] at e4
    cases e4
  · rw [e] at e4
    cases e4
theorem Tw.kp {N : Addr → Prop} {H H' : Hp} {t C : Addr} {ow : List Nat} (w : Tw N H t C ow) (k : ∀ c u, (N c ∨ c = t) → H c = some u → H' c = some u) : Tw N H' t C ow := by
  obtain ⟨dx, o, d, n, fs, ns, e1, l1, l2, l3, nl, e2, e3, e4, lf, hns, od, on, dn, hin, No, Nd, Nn⟩ := w.ex
  refine ⟨⟨dx, o, d, n, fs, ns, k _ _ (.inr rfl) e1, l1, l2, l3, nl, k _ _ (.inl No) e2, k _ _ (.inl Nd) e3, k _ _ (.inl Nn) e4, lf, hns, od, on, dn, fun a ha => ?_, No, Nd, Nn⟩, w.low, w.few⟩
  obtain ⟨⟨ks, h1, h2⟩, a1, a2, a3, a4⟩ := hin a ha
  exact ⟨⟨ks, k _ _ (.inl a4) h1, h2⟩, a1, a2, a3, a4⟩
theorem Tw.put {N : Addr → Prop} {H H' : Hp} {t C dx : Addr} {ow : List Nat} {fs fs' : List (Str × V)} (w : Tw N H t C ow) (k : ∀ c u, c ≠ t → H c = some u → H' c = some u)
    (e : H t = some (.ins C dx fs)) (e' : H' t = some (.ins C dx fs')) (hl : fs'.length < 1000) (hf : ∀ m : Str, m ≠ "_leaps" → fs'.lookup m = fs.lookup m) : Tw N H' t C ow := by
  obtain ⟨dx2, o, d, n, fs2, ns, e1, l1, l2, l3, nl, e2, e3, e4, lf, hns, od, on, dn, hin, No, Nd, Nn⟩ := w.ex
  rw [e] at e1
  cases e1
  have no : o ≠ t := fun z => by rw [z, e] at e2; cases e2
  have nd : d ≠ t := fun z => by rw [z, e] at e3; cases e3
  have nn : n ≠ t := fun z => by rw [z, e] at e4; cases e4
  refine ⟨⟨dx, o, d, n, fs', ns, e', (hf _ (by decide)).trans l1, (hf _ (by decide)).trans l2, (hf _ (by decide)).trans l3, fun m hm => (hf m fun z => hm (by rw [z]; decide)).trans (nl m hm), k _ _ no e2, k _ _ nd e3, k _ _ nn e4, hl, hns, od, on, dn, fun a ha => ?_, No, Nd, Nn⟩, w.low, w.few⟩
  obtain ⟨⟨ks, h1, h2⟩, a1, a2, a3, a4⟩ := hin a ha
  exact ⟨⟨ks, k _ _ (fun z => by rw [z, e] at h1; cases h1) h1, h2⟩, a1, a2, a3, a4⟩
theorem Lv.mono {N N' : Addr → Prop} {H H' : Hp} {q : Addr} {n : List Nat} (l : Lv N H q n) (hn : ∀ c, N c → N' c) (k : ∀ c u, N c → H c = some u → H' c = some u) : Lv N' H' q n := by
  obtain ⟨ls, h1, h2, h3, h4⟩ := l.ex
  refine ⟨ls, k _ _ h3 h1, h2, hn _ h3, fun i a ha => ?_⟩
  obtain ⟨a1, a2, a3⟩ := h4 i a ha
  exact ⟨hn _ a1, a2, k _ _ a1 a3⟩
/-- a method of C that begins with super().m, g above it -/
structure SAt (P : Program) (K : PySem.W.Frag) (C : Addr) (m qual : Str) (st : Stmt) (ps : List Str) (g : Addr) : Prop where
  ex : ∃ (f cc c : Addr) (oc : Value) (od : Option Addr) (doc pm : Value) (an : Option Addr) (ct : Value) (osl : Array (Option Value)),
    SupTxt P K C C f g cc ⟨m, qual, defArgs st, defBody st, defScope st, [(("__class__" : Str), cc)], c⟩ m ∧
    K.lookup f = some ⟨oc, od, .func (PySem.W.ksFn m qual (defArgs st) (defBody st) (defScope st) .none .none doc pm an (.ref c) ct cc), osl⟩ ∧ Meth K C m f ∧
    Binds K (PySem.W.ksFn m qual (defArgs st) (defBody st) (defScope st) .none .none doc pm an (.ref c) ct cc) ps []
theorem ns_grow : NScope ["self", "make", "__class__", "number"] ["self", "make"] ["__class__"] (defScope s_LeapTree_grow) := nscope_by (by decide +kernel)
theorem ns_init : NScope ["self", "__class__"] ["self"] ["__class__"] (defScope s_LeapTree___init__) := nscope_by (by decide +kernel)
section
variable {P : Program} {w : World} {K : PySem.W.Frag} {mg : Str → Option Value} {base : Heap} {C : Addr}
def spInitL (C : Addr) : Sp := fun vs H Q _ => ∃ (t dx : Addr), vs = [.ref t] ∧ H t = some (.ins C dx []) ∧
  ∀ (H' : Hp) (N' : Addr → Prop), Lw C N' H' t [] → (∀ c u, c ≠ t → H c = some u → H' c = some u) → (∀ c, N' c → H c = none) → Q .non H'
theorem okL_init {g : Addr} {fd : FuncData} (T : Txt K mg) (TC : TreeC K C) (F : Fun K "__init__" "MakeTree.__init__" s_MakeTree___init__ g fd) (hb : Binds K fd ["self"] []) (S : SAt P K C "__init__" "LeapTree.__init__" s_LeapTree___init__ ["self"] g) :
    ∃ (f : Addr) (fd : FuncData), Meth K C "__init__" f ∧ Binds K fd ["self"] [] ∧ FnOk P w K mg base CX0 2 f fd ["self"] (spInitL C) := by
  obtain ⟨f, cc, c, oc, od, doc, pm, an, ct, osl, sup, lk, me, bi⟩ := S.ex
  refine ⟨f, _, me, bi, ?_⟩
  refine okS_do sup lk ns_init rfl (fun vs H Q E h => ?_) rfl (fn_init T TC F) hb (by rfl) (fun L => by rfl) (fun L => by rfl) ?_
  · obtain ⟨t, dx, rfl, _⟩ := h
    rfl
  · rintro A outer s H vs Q E hr ⟨t, dx, rfl, e1, q⟩
    refine ⟨t, dx, [], E0, _, rfl, e1, pass0, (pss_one (ps_fld (pv 0) (pe_lst (pa_cons (pe_lst pa_nil) pa_nil)) rfl)), ?_⟩
    refine ⟨t, dx, rfl, e1, fun H1 N1 tw ⟨fs, f1, f2, f3⟩ k1 n1 => ?_⟩
    refine ⟨(by show 0 ≤ sizeLine; decide), fun a ha => ⟨(by show 1 ≤ sizeLine; decide), fun p hp => ?_⟩⟩
    have hta : t ≠ a := fun e => by rw [← e, f1] at ha; cases ha
    have hp1 : H1 p = none := upd_none hp
    have htp : t ≠ p := fun e => by rw [← e, f1] at hp1; cases hp1
    have hap : a ≠ p := fun e => by
      rw [← e, upd_same] at hp
      cases hp
    obtain ⟨dx2, _, _, _, _, _, z1, _⟩ := tw.ex
    refine ⟨_, rfl, t, C, _, fs, rfl, kep (kep f1 ha) hp, TC.cl, TC.n_leaps, Nat.lt_of_le_of_lt f2 (by decide), ?_⟩
    have k3 : ∀ c u, c ≠ t → H1 c = some u → (upd (upd (upd H1 a (.lst [])) p (.lst [V.ref a])) t (.ins C dx (putF "_leaps" (.ref p) fs))) c = some u := fun c u h z => by
      rw [upd_ne h]
      exact kep (kep z ha) hp
    refine q _ (fun c => N1 c ∧ c ≠ t ∧ H1 c ≠ none ∨ (c = p ∨ c = a)) ⟨_, (fun c => c = p ∨ c = a), dx, p, _, tw.cut.put k3 f1 upd_same ?_ ?_, upd_same, ?_, ⟨[a], ?_, rfl, .inl rfl, fun i b hb => ?_⟩, fun c h1 h2 => ?_, fun c h => .inl h, fun c h => .inr h⟩ (fun c u hc z => k3 _ _ hc (k1 _ _ hc z)) fun c hc => ?_
    · exact Nat.lt_of_le_of_lt (length_putF _ _ _) (by omega)
    · intro m hm
      rw [lookup_putF, if_neg hm]
    · rw [lookup_putF, if_pos rfl]
    · rw [upd_ne htp.symm, upd_same]
      rfl
    · cases i with
      | zero =>
        cases (show some a = some b from hb)
        refine ⟨.inr rfl, hap, ?_⟩
        rw [upd_ne hta.symm, upd_ne hap, upd_same]
        rfl
      | succ i => cases hb
    · rcases h2 with rfl | rfl
      · exact h1.2.2 hp1
      · exact h1.2.2 ha
    · have bk : ∀ c, c ≠ t → H1 c = none → H c = none := fun c hc z => by
        cases z2 : H c with
        | none => rfl
        | some u =>
          rw [k1 _ _ hc z2] at z
          cases z
      rcases hc with hc | rfl | rfl
      · exact n1 _ hc.1
      · exact bk _ htp.symm hp1
      · exact bk _ hta.symm ha
def spGrowL (C : Addr) : Sp := fun vs H Q _ => ∃ (t : Addr) (ow : List Nat) (i : Nat) (N : Addr → Prop), vs = [.ref t, num i] ∧ Lw C N H t ow ∧ i ≤ ow.length ∧ ow.length < 63 ∧
  ∀ (H' : Hp) (N' : Addr → Prop), Lw C N' H' t (ow ++ [i]) → (∀ c u, ¬ N c → H c = some u → H' c = some u) → (∀ c, N' c → N c ∨ H c = none) → Q (num (ow.length + 1)) H'
theorem okL_grow {g : Addr} {fd : FuncData} (T : Txt K mg) (TC : TreeC K C) (m_many : Met P w K mg base 1 C "many" (spMany C) []) (m__need_make : Met P w K mg base 2 C "_need_make" (spNeed C) []) (m__leaps_through : Met P w K mg base 1 C "_leaps_through" (spThrough C) [])
    (F : Fun K "grow" "MakeTree.grow" s_MakeTree_grow g fd) (hb : Binds K fd ["self", "make"] []) (S : SAt P K C "grow" "LeapTree.grow" s_LeapTree_grow ["self", "make"] g) :
    Met P w K mg base 4 C "grow" (spGrowL C) [] := by
  obtain ⟨f, cc, c, oc, od, doc, pm, an, ct, osl, sup, lk, me, bi⟩ := S.ex
  refine ⟨f, _, _, [], TC.cl, me, ?_, bi, .nil⟩
  refine okS_set (i := 3) sup lk ns_grow rfl (fun vs H Q E h => ?_) rfl rfl rfl (fn_grow T TC m_many m__need_make F) hb (by rfl) (fun L => by rfl) (fun L => by rfl) (fun L => by rfl) (fun L => by rfl) ?_
  · obtain ⟨t, ow, i, N, rfl, _⟩ := h
    rfl
  · rintro A outer s H vs Q E hr ⟨t, ow, i, N, rfl, lw, hi, hf, q⟩
    obtain ⟨N1, N2, dx, q0, fs, tw, e1, l1, lv, dis, i1, i2⟩ := lw.ex
    refine ⟨t, dx, fs, E0, _, _, rfl, e1, pass0, (pa_cons (pv 1) pa_nil), (pss_cons (ps_expr (pe_bm PySem.F.plainAttrs_list PySem.F.slot_list_append PySem.F.type_list_append mt_append (pe_fld (pv 0) rfl) (pa_cons (pe_mt m__leaps_through hr (by decide) (pv 0) (pa_cons (pv 1) pa_nil)) pa_nil))) (pss_one (ps_ret (pv 3)))), ?_⟩
    refine ⟨_, rfl, t, ow, i, _, rfl, tw.cut, hi, hf, fun H1 M1 tw1 k1 n1 => ?_⟩
    obtain ⟨ls, e2, hls, Nq, hin⟩ := lv.ex
    have t1 : H1 t = some (.ins C dx fs) := k1 _ _ (fun z => z.2.1 rfl) e1
    have kv : ∀ c u, N2 c → H c = some u → H1 c = some u := fun c u hc z => k1 _ _ (fun y => dis c y.1 hc) z
    have lv1 : Lv N2 H1 q0 ow := lv.mono (fun _ z => z) kv
    have q1 : H1 q0 = some (.lst (ls.map V.ref)) := kv _ _ Nq e2
    have hqt : q0 ≠ t := fun z => by rw [z, e1] at e2; cases e2
    refine ⟨_, rfl, t, C, dx, fs, .ref q0, rfl, t1, TC.cl, TC.n_leaps, l1, .inl ⟨rfl, _, SqL.of q1⟩, ?_⟩
    obtain ⟨dx2, _, _, _, fs2, _, y1, _, _, _, y5, _⟩ := tw1.ex
    rw [t1] at y1
    cases y1
    refine ⟨_, rfl, t, dx, fs, rfl, t1, y5 _ (by decide), _, rfl, t, dx, q0, fs, ow, i, N2, rfl, t1, l1, lv1, tw.low, hi, hf, fun p H2 hp sm hk => ?_⟩
    have q2 := sm _ _ q1
    have hpq : p ≠ q0 := fun z => by rw [z, q1] at hp; cases hp
    have hpt : p ≠ t := fun z => by rw [z, t1] at hp; cases hp
    have hq3 : (upd H2 q0 (.lst (ls.map V.ref ++ [V.ref p]))) q0 = some (.lst ((ls ++ [p]).map V.ref)) := by
      rw [upd_same, List.map_append]
      rfl
    refine ⟨q0, _, _, rfl, rfl, q2, small1000 (by rw [List.length_map]; omega), ?_⟩
    have k3 : ∀ c u, c ≠ q0 → H1 c = some u → (upd H2 q0 (.lst (ls.map V.ref ++ [V.ref p]))) c = some u := fun c u hc z => by
      rw [upd_ne hc]
      exact sm _ _ z
    have kp3 : (upd H2 q0 (.lst (ls.map V.ref ++ [V.ref p]))) p = some (.lst ((leapsL (ow ++ [i]) (ow.length + 1)).map num)) := by
      rw [upd_ne hpq]
      exact hk
    generalize upd H2 q0 (.lst (ls.map V.ref ++ [V.ref p])) = H3 at *
    have nq : ∀ c, M1 c → c ≠ q0 := fun c hc z => by
      subst z
      rcases n1 _ hc with h | h
      · exact dis _ h.1 Nq
      · rw [e2] at h
        cases h
    refine ⟨_, rfl, q _ (fun c => (M1 c ∧ c ≠ t ∧ H1 c ≠ none) ∨ ((N2 c ∧ H c ≠ none) ∨ c = p)) ⟨_, (fun c => (N2 c ∧ H c ≠ none) ∨ c = p), dx, q0, fs, tw1.cut.kp fun c u hc z => ?_, k3 _ _ hqt.symm t1, l1, ⟨ls ++ [p], hq3, ?_, .inl ⟨Nq, fun z => by rw [e2] at z; cases z⟩, fun j b hb => ?_⟩, fun c h1 h2 => ?_, fun c h => .inl h, fun c h => .inr h⟩ (fun c u hc z => ?_) fun c hc => ?_⟩
    · rcases hc with hc | rfl
      · exact k3 _ _ (nq _ hc.1) z
      · exact k3 _ _ hqt.symm z
    · rw [List.length_append, List.length_append, hls]
      rfl
    · by_cases hj : j < ls.length
      · rw [List.getElem?_append_left hj] at hb
        obtain ⟨a1, a2, a3⟩ := hin j b hb
        refine ⟨.inl ⟨a1, fun z => by rw [a3] at z; cases z⟩, a2, ?_⟩
        rw [line_more' tw.low hi (by omega)]
        exact k3 _ _ a2 (kv _ _ a1 a3)
      · rw [List.getElem?_append_right (by omega)] at hb
        by_cases h0 : j - ls.length = 0
        · rw [h0] at hb
          cases (show some p = some b from hb)
          refine ⟨.inr rfl, hpq, ?_⟩
          have ej : j = ow.length + 1 := by omega
          rw [ej]
          exact kp3
        · rw [List.getElem?_eq_none (by show 1 ≤ _; omega)] at hb
          cases hb
    · rcases h2 with h2 | rfl
      · rcases n1 _ h1.1 with h | h
        · exact dis _ h.1 h2.1
        · exact h2.2 h
      · exact h1.2.2 hp
    · have h1 : ¬ N1 c := fun y => hc (i1 _ y)
      have h2 : ¬ N2 c := fun y => hc (i2 _ y)
      exact k3 _ _ (fun y => h2 (y ▸ Nq)) (k1 _ _ (fun y => h1 y.1) z)
    · rcases hc with hc | hc | rfl
      · rcases n1 _ hc.1 with h | h
        · exact .inl (i1 _ h.1)
        · exact .inr h
      · exact .inl (i2 _ hc.1)
      · by_cases y : N1 c
        · exact .inl (i1 _ y)
        · refine .inr ?_
          cases z2 : H c with
          | none => rfl
          | some u =>
            rw [k1 _ _ (fun x => y x.1) z2] at hp
            cases hp
end
end K10
set_option maxHeartbeats 1000000
namespace K10
open PySem PySem.Spec PyProof.Rows L2 Gd Gs
open C8 (clsBody Met pe_mt pe_mt0)
section
variable {P : Program} {w : World} {K : PySem.W.Frag} {mg : Str → Option Value} {base : Heap} {CM CL : Addr}
theorem ok_cell (T : Txt K mg) (D : DefAt K mg "_law_cell" s__law_cell ["_law_script", "_law_k"]) : CalG P w K mg base 1 "_law_cell" (spCell K) := by
  refine D.cal sc__law_cell (fun vs H Q E h => ?_) (fun f cdv A outer s H vs Q E hG hr h => ?_)
  · obtain ⟨a, ns, k, rfl, _⟩ := h
    rfl
  · obtain ⟨a, ns, k, rfl, hS, hl, hk, q⟩ := h
    refine ⟨_, (pss_cons (ps_if (pt_cmpR op_lt (pv 1) (pe_callB call_len (by rfl) T.b_len boot_len_ (pa_cons (pv 0) pa_nil)) (nomark _))
          (pss_one (ps_ret (pe_ix ix_list (pv 0) (pv 1) (fun _ _ => rfl)))) pss_nil)
      (pss_one (ps_ret (pe_op op_add (pe_op op_mul pe_int (pv 1)) pe_int)))), ?_⟩
    refine ⟨_, rfl, _, rfl, _, _, rfl, .inl ⟨_, hS, rfl⟩, _, _, rfl, rfl, _, rfl, ?_⟩
    refine ite2 (fun e => ?_) (fun e => ?_)
    · have e2 := of_decide_eq_true e
      rw [List.length_map] at e2
      obtain ⟨n, hn⟩ := atI_ints hk e2
      exact ⟨_, rfl, _, rfl, _, _, _, _, rfl, rfl, hS, hn, q n⟩
    · exact ⟨_, rfl, _, _, rfl, rfl, .inl ⟨by decide, by decide⟩, _, _, rfl, rfl, q _⟩
theorem ok_box (T : Txt K mg) (D : DefAt K mg "_law_box" s__law_box ["_law_cell_here"]) : CalG P w K mg base 1 "_law_box" spBox := by
  refine D.cal sc__law_box (fun vs H Q E h => ?_) (fun f cdv A outer s H vs Q E hG hr h => ?_)
  · obtain ⟨n, rfl, _⟩ := h
    rfl
  · obtain ⟨n, rfl, q⟩ := h
    refine ⟨_, (pss_one (ps_ret (pe_lst (pa_cons (pe_callB (call_max2 rfl) (by rfl) T.b_max boot_max_ (pa_cons pe_int (pa_cons (pe_op op_sub (pv 0) (pe_op op_pow pe_int pe_int)) pa_nil))) (pa_cons (pe_op op_mod (pv 0) pe_int) (pa_cons pe_int pa_nil)))))), ?_⟩
    refine ⟨_, rfl, _, _, rfl, rfl, ⟨by decide, by decide, by decide⟩, _, _, rfl, rfl, _, _, rfl, ?_⟩
    refine ⟨_, rfl, _, _, rfl, rfl, (by show (0 : Int) < 2147483629; decide), ?_⟩
    refine ⟨(by show 3 ≤ sizeLine; decide), fun l hl => ?_⟩
    refine q l _ hl ⟨_, _, _, ?_, ?_, ?_, upd_same⟩ fun c hc => upd_ne hc
    · split <;> omega
    · exact Int.emod_nonneg _ (by decide)
    · exact Int.emod_lt_of_pos _ (by decide)
theorem ok_take (T : Txt K mg) (D : DefAt K mg "_law_take" s__law_take ["_law_box_here", "_law_many"]) : CalG P w K mg base 1 "_law_take" spTake := by
  refine D.cal sc__law_take (fun vs H Q E h => ?_) (fun f cdv A outer s H vs Q E hG hr h => ?_)
  · obtain ⟨b, m, rfl, _⟩ := h
    rfl
  · obtain ⟨b, m, rfl, hB, hm0, hm1, q⟩ := h
    obtain ⟨x, y, z, hx, hy0, hy1, hb⟩ := hB
    have hS := SqL.of (K := K) hb
    refine ⟨_, (pss_cons (ps_if (pt_cmpR op_gt (pe_ix ix_list (pv 0) pe_int (fun _ _ => rfl)) pe_int (nomark _))
          (pss_cons (ps_set (i := 2) sc__law_take.nd rfl (Or.inl rfl) (pe_op op_mod (pe_ix ix_list (pv 0) pe_int (fun _ _ => rfl)) (pv 1)))
          (pss_cons (ps_asg (pe_op op_fdiv (pe_ix ix_list (pv 0) pe_int (fun _ _ => rfl)) (pv 1)) (pg_sub (pv 0) pe_int set_list))
          (pss_one (ps_ret (pv 2))))) pss_nil)
      (pss_cons (ps_asg (pe_op op_add (pe_ix ix_list (pv 0) pe_int (fun _ _ => rfl)) pe_int) (pg_sub (pv 0) pe_int set_list))
      (pss_cons (ps_set (i := 3) sc__law_take.nd rfl (Or.inl rfl) (pe_op op_mod (pe_op op_mul (pe_op op_add (pe_ix ix_list (pv 0) pe_int (fun _ _ => rfl)) pe_int) (pe_op op_add (pe_op op_mul pe_int (pe_ix ix_list (pv 0) pe_int (fun _ _ => rfl))) pe_int)) pe_int))
      (pss_cons (ps_set (i := 3) sc__law_take.nd rfl (Or.inl rfl) (pe_op op_mod (pe_op op_pow (pv 3) pe_int) pe_int))
      (pss_one (ps_ret (pe_op op_mod (pe_op op_fdiv (pe_op op_mod (pe_op op_pow (pe_op op_add (pv 3) (pe_op op_fdiv (pe_ix ix_list (pv 0) pe_int (fun _ _ => rfl)) pe_int)) pe_int) pe_int) pe_int) (pv 1)))))))), ?_⟩
    refine ⟨_, rfl, _, _, _, _, rfl, rfl, hS, rfl, _, _, rfl, rfl, _, rfl, ?_⟩
    refine ite2 (fun e => ?_) (fun e => ?_)
    · have e2 := of_decide_eq_true e
      refine ⟨_, rfl, _, _, _, _, rfl, rfl, hS, rfl, _, rfl, _, _, rfl, rfl, hm0, ?_⟩
      refine ⟨_, rfl, _, _, _, _, rfl, rfl, hS, rfl, _, rfl, _, _, rfl, rfl, ⟨hm0, by omega⟩, ?_⟩
      refine ⟨_, rfl, _, _, _, _, rfl, rfl, hb, rfl, ?_⟩
      refine ⟨_, rfl, ?_⟩
      refine q _ _ (Int.emod_nonneg _ (by omega)) (Int.emod_lt_of_pos _ hm0) ⟨_, _, _, ?_, hy0, hy1, upd_same⟩ fun c hc => upd_ne hc
      exact Int.ediv_nonneg (by omega) (by omega)
    · refine ⟨_, rfl, _, _, _, _, rfl, rfl, hS, rfl, _, _, rfl, rfl, ?_⟩
      refine ⟨_, rfl, _, _, _, _, rfl, rfl, hb, rfl, ?_⟩
      have hb1 : (upd H b (.lst [.int x, .int y, .int (z + 1)])) b = some (.lst [.int x, .int y, .int (z + 1)]) := upd_same
      have hS1 := SqL.of (K := K) hb1
      refine ⟨_, rfl, _, _, _, _, rfl, rfl, hS1, rfl, _, _, rfl, rfl, ?_⟩
      refine ⟨_, rfl, _, _, _, _, rfl, rfl, hS1, rfl, _, _, rfl, rfl, .inl ⟨by decide, by decide⟩, _, _, rfl, rfl, ?_⟩
      refine ⟨_, _, rfl, rfl, .inl ⟨by omega, by omega⟩, _, _, rfl, rfl, (by show (0 : Int) < 2147483647; decide), ?_⟩
      generalize hA : (y + 31337) * (2 * (z + 1) + 1) % 2147483647 = A
      have a0 : 0 ≤ A := hA ▸ Int.emod_nonneg _ (by decide)
      have a1 : A < 2147483647 := hA ▸ Int.emod_lt_of_pos _ (by decide)
      clear hA
      refine ⟨_, rfl, _, _, rfl, rfl, ⟨by decide, by decide, by omega⟩, _, _, rfl, rfl, (by show (0 : Int) < 2147483629; decide), ?_⟩
      show _
      generalize hB : A ^ (5 : Int).toNat % 2147483629 = B
      have b0 : 0 ≤ B := hB ▸ Int.emod_nonneg _ (by decide)
      have b1 : B < 2147483629 := hB ▸ Int.emod_lt_of_pos _ (by decide)
      clear hB
      refine ⟨_, rfl, _, rfl, _, _, _, _, rfl, rfl, hS1, rfl, _, _, rfl, rfl, ⟨by decide, by decide⟩, _, _, rfl, rfl, ?_⟩
      have c0 : 0 ≤ y / 65536 := Int.ediv_nonneg hy0 (by decide)
      have c1 : y / 65536 < 65536 := by omega
      refine ⟨_, _, rfl, rfl, ⟨by decide, by decide, by omega⟩, _, _, rfl, rfl, (by show (0 : Int) < 2147483587; decide), ?_⟩
      refine ⟨_, _, rfl, rfl, ⟨by decide, by decide⟩, ?_⟩
      refine ⟨_, rfl, _, _, rfl, rfl, hm0, ?_⟩
      exact q _ _ (Int.emod_nonneg _ (by omega)) (Int.emod_lt_of_pos _ hm0) ⟨_, _, _, hx, hy0, hy1, upd_same⟩ fun c hc => upd_ne hc

def spPick : Sp := fun vs H Q _ => ∃ (b : Addr) (m : Nat), vs = [.ref b, num m] ∧ BoxAt H b ∧ 0 < m ∧ m ≤ 1000000 ∧
  ∀ (d : Nat) (H' : Hp), d < m → BoxAt H' b → Kp b H H' → Q (num d) H'
theorem ok_pick (T : Txt K mg) (c__law_take : CalG P w K mg base 1 "_law_take" spTake) (D : DefAt K mg "_law_pick" s__law_pick ["_law_box_here", "_law_many"]) : CalG P w K mg base 2 "_law_pick" spPick := by
  refine D.cal sc__law_pick (fun vs H Q E h => ?_) (fun f cdv A outer s H vs Q E hG hr h => ?_)
  · obtain ⟨b, m, rfl, _⟩ := h
    rfl
  · obtain ⟨b, m, rfl, hB, hm0, hm1, q⟩ := h
    refine ⟨_, (pss_cons (ps_set (i := 2) sc__law_pick.nd rfl (Or.inl rfl) (pe_g c__law_take hG (hr.mono (by decide)) (by rfl) (pa_cons (pv 0) (pa_cons pe_int pa_nil))))
      (pss_cons (ps_if (pt_cmpR op_eq (pv 2) pe_int (nomark _))
          (pss_one (ps_ret (pe_op op_sub (pv 1) pe_int))) pss_nil)
      (pss_cons (ps_if (pt_cmpR op_eq (pv 2) pe_int (nomark _))
          (pss_one (ps_ret (pe_ix ix_list (pe_lst (pa_cons pe_int (pa_cons (pe_op op_sub (pe_op op_sub (pv 1) pe_int) (pe_g c__law_take hG (hr.mono (by decide)) (by rfl) (pa_cons (pv 0) (pa_cons (pe_callB (call_min2 rfl) (by rfl) T.b_min boot_min_ (pa_cons pe_int (pa_cons (pv 1) pa_nil))) pa_nil)))) pa_nil))) (pe_g c__law_take hG (hr.mono (by decide)) (by rfl) (pa_cons (pv 0) (pa_cons pe_int pa_nil))) (fun _ _ => rfl)))) pss_nil)
      (pss_one (ps_ret (pe_g c__law_take hG (hr.mono (by decide)) (by rfl) (pa_cons (pv 0) (pa_cons (pv 1) pa_nil)))))))), ?_⟩
    refine ⟨_, rfl, b, 4, rfl, hB, by decide, by decide, fun d0 H0 g0 g1 hB0 k0 => ?_⟩
    have K0 := kp_of k0
    refine ⟨_, rfl, rfl, _, rfl, ite2 (fun _ => ?_) (fun _ => ?_)⟩
    · refine ⟨_, rfl, _, _, rfl, rfl, ?_⟩
      have := q (m - 1) H0 (by omega) hB0 K0
      have e : ((m : Int) - 1) = ((m - 1 : Nat) : Int) := by omega
      show Q (.int ((m : Int) - 1)) H0
      rw [e]
      exact this
    · refine ⟨_, rfl, rfl, _, rfl, ite2 (fun _ => ?_) (fun _ => ?_)⟩
      · refine ⟨_, rfl, _, _, rfl, rfl, _, rfl, _, rfl, _, _, rfl, b, _, rfl, hB0, ?_, ?_, fun d1 H1 h0 h1 hB1 k1 => ?_⟩
        · split <;> omega
        · split <;> omega
        have hd1 : d1 < m := by
          revert h1
          split <;> omega
        refine ⟨_, _, rfl, rfl, (by show 2 ≤ sizeLine; decide), fun l hl => ?_⟩
        have hB2 := hB1.upd (o := .lst [.int 0, .int ((m : Int) - 1 - d1)]) hl
        refine ⟨_, rfl, b, 2, rfl, hB2, by decide, by decide, fun d2 H2 j0 j1 hB3 k3 => ?_⟩
        have hL : H2 l = some (.lst [.int 0, .int ((m : Int) - 1 - d1)]) := (k3 l (hB1.ne hl)).trans upd_same
        have K2 : Kp b H H2 := ((K0.trans (kp_of k1)).upd hl).trans (kp_of k3)
        obtain ⟨v, hv, hat⟩ := pickL [.int 0, .int ((m : Int) - 1 - d1)] j0 (by show d2 < ((2 : Nat) : Int); omega)
        refine ⟨l, _, d2, v, rfl, rfl, SqL.of hL, hat, ?_⟩
        simp only [List.mem_cons, List.not_mem_nil, or_false] at hv
        rcases hv with rfl | rfl
        · exact q 0 H2 hm0 hB3 K2
        · have := q (m - 1 - d1.toNat) H2 (by omega) hB3 K2
          have e : ((m : Int) - 1 - d1) = ((m - 1 - d1.toNat : Nat) : Int) := by omega
          rw [e]
          exact this
      · refine ⟨_, rfl, _, rfl, b, m, rfl, hB0, by omega, by omega, fun d1 H1 h0 h1 hB1 k1 => ?_⟩
        have := q d1.toNat H1 (by omega) hB1 (K0.trans (kp_of k1))
        have e : d1 = ((d1.toNat : Nat) : Int) := by omega
        rw [e]
        exact this
/-! ### the trees -/
def RK (CM CL : Addr) (kind : Int) : (Addr → Prop) → Hp → Addr → List Nat → Prop := fun N H t ow => (kind = 1 ∧ Lw CL N H t ow) ∨ (kind ≠ 1 ∧ Tw N H t CM ow)
def spGrowR (R : (Addr → Prop) → Hp → Addr → List Nat → Prop) : Sp := fun vs H Q _ => ∃ (t : Addr) (ow : List Nat) (i : Nat) (N : Addr → Prop), vs = [.ref t, num i] ∧ R N H t ow ∧ i ≤ ow.length ∧ ow.length < 63 ∧
  ∀ (H' : Hp) (N' : Addr → Prop), R N' H' t (ow ++ [i]) → (∀ c u, ¬ N c → H c = some u → H' c = some u) → (∀ c, N' c → N c ∨ H c = none) → Q (num (ow.length + 1)) H'
/-- what is known of the two classes -/
structure Kinds (P : Program) (w : World) (K : PySem.W.Frag) (mg : Str → Option Value) (base : Heap) (CM CL : Addr) : Prop where
  cM : mg "MakeTree" = some (.ref CM)
  cL : mg "LeapTree" = some (.ref CL)
  iM : ∃ (f : Addr) (fd : FuncData), Mk K CM f ∧ Binds K fd ["self"] [] ∧ FnOk P w K mg base CX0 1 f fd ["self"] (spInit CM)
  iL : ∃ (f : Addr) (fd : FuncData), Mk K CL f ∧ Binds K fd ["self"] [] ∧ FnOk P w K mg base CX0 2 f fd ["self"] (spInitL CL)
  gM : Met P w K mg base 3 CM "grow" (spGrow CM) []
  gL : Met P w K mg base 4 CL "grow" (spGrowL CL) []
theorem Kinds.grow (k : Kinds P w K mg base CM CL) (kind : Int) : ∃ C, (C = CM ∨ C = CL) ∧ Met P w K mg base 4 C "grow" (spGrowR (RK CM CL kind)) [] ∧ ∀ N H t ow, RK CM CL kind N H t ow → Tr H t C ow (depths ow) := by
  by_cases h : kind = 1
  · have e : RK CM CL kind = Lw CL := by
      funext N H t ow
      exact propext ⟨fun z => z.elim (fun y => y.2) (fun y => absurd h y.1), fun z => .inl ⟨h, z⟩⟩
    rw [e]
    exact ⟨CL, .inr rfl, k.gL, fun N H t ow z => z.tr⟩
  · have e : RK CM CL kind = fun N H t ow => Tw N H t CM ow := by
      funext N H t ow
      exact propext ⟨fun z => z.elim (fun y => absurd y.1 h) (fun y => y.2), fun z => .inr ⟨h, z⟩⟩
    rw [e]
    obtain ⟨f, fd, ps, ds, a1, a2, a3, a4, a5⟩ := k.gM.ex
    exact ⟨CM, .inl rfl, ⟨f, fd, ps, ds, a1, a2, a3.mono (by decide), a4, a5⟩, fun N H t ow z => z.tr⟩
def spTree (CM CL : Addr) : Sp := fun vs H Q _ => ∃ kind : Int, vs = [.int kind] ∧ ∀ (t : Addr) (H' : Hp) (N' : Addr → Prop), RK CM CL kind N' H' t [] → Same H H' → (∀ c, N' c → H c = none) → H t = none → Q (.ref t) H'
theorem ok_tree (T : Txt K mg) (k : Kinds P w K mg base CM CL) (D : DefAt K mg "_law_tree" s__law_tree ["_law_kind"]) : CalG P w K mg base 4 "_law_tree" (spTree CM CL) := by
  obtain ⟨fL, fdL, M_LeapTree, B_LeapTree, G_LeapTree⟩ := k.iL
  obtain ⟨fM, fdM, M_MakeTree, B_MakeTree, G_MakeTree⟩ := k.iM
  have T : Kinds P w K mg base CM CL := k
  refine D.cal sc__law_tree (fun vs H Q E h => ?_) (fun f cdv A outer s H vs Q E hG hr h => ?_)
  · obtain ⟨kind, rfl, _⟩ := h
    rfl
  · obtain ⟨kind, rfl, q⟩ := h
    refine ⟨_, (pss_one (ps_ret (pe_ifExp (pt_cmpR op_eq (pv 0) pe_int (nomark _)) (pe_make0 M_LeapTree G_LeapTree (hr.mono (by decide)) rfl T.cL B_LeapTree .nil pass0) (pe_make0 M_MakeTree G_MakeTree (hr.mono (by decide)) rfl T.cM B_MakeTree .nil pass0)))), ?_⟩
    have sm : ∀ (t dx C : Addr) (H' : Hp), H t = none → H dx = none → (∀ c u, c ≠ t → (upd (upd H dx (.own t)) t (.ins C dx [])) c = some u → H' c = some u) → Same H H' := fun t dx C H' n1 n2 k c u z =>
      k c u (ne_of_none z n1) (by rw [upd_ne (ne_of_none z n1), upd_ne (ne_of_none z n2)]; exact z)
    refine ⟨_, rfl, rfl, _, rfl, ite2 (fun e => ?_) (fun e => ?_)⟩
    · have e2 : kind = 1 := V.int.inj (of_decide_eq_true e)
      intro t dx n1 n2 ne
      refine ⟨t, dx, rfl, upd_same, fun H' N' lw k1 n3 => ⟨rfl, q t H' N' (.inl ⟨e2, lw⟩) (sm t dx _ H' n1 n2 k1) (fun c hc => upd_none (upd_none (n3 c hc))) n1⟩⟩
    · have e2 : kind ≠ 1 := fun z => e (by rw [z]; exact decide_eq_true rfl)
      intro t dx n1 n2 ne
      refine ⟨t, dx, rfl, upd_same, fun H' N' tw _ k1 n3 => ⟨rfl, q t H' N' (.inr ⟨e2, tw⟩) (sm t dx _ H' n1 n2 k1) (fun c hc => upd_none (upd_none (n3 c hc))) n1⟩⟩
/-! ### the lines, as the law goes them -/
def OwL (H : Hp) (a : Addr) (ow : List Nat) : Prop := H a = some (.lst (.non :: ow.map num))
def spLLine : Sp := fun vs H Q _ => ∃ (a : Addr) (ow : List Nat) (i : Nat), vs = [.ref a, num i] ∧ OwL H a ow ∧ Low ow ∧ ow.length ≤ 63 ∧ i ≤ ow.length ∧
  ∀ (p : Addr) (H' : Hp), H p = none → Same H H' → H' p = some (.lst ((line ow i).map num)) → Q (.ref p) H'
theorem ok_lline (T : Txt K mg) (D : DefAt K mg "_law_line" s__law_line ["_law_owners_here", "_law_make"]) : CalG P w K mg base 1 "_law_line" spLLine := by
  refine D.cal sc__law_line (fun vs H Q E h => ?_) (fun f cdv A outer s H vs Q E hG hr h => ?_)
  · obtain ⟨a, ow, i, rfl, _⟩ := h
    rfl
  · obtain ⟨a, ow, i, rfl, hO, low, few, hi, q⟩ := h
    refine ⟨_, (pss_cons (ps_set (i := 2) sc__law_line.nd rfl (Or.inl rfl) (pe_lst (pa_cons (pv 1) pa_nil)))
      (pss_cons (ps_while PassesOwn.never (pt_cmpR op_gt (pe_ix ix_list (pv 2) pe_int (fun _ _ => rfl)) pe_int (nomark _))
          (pss_one (ps_set (i := 2) sc__law_line.nd rfl (Or.inl rfl) (pe_op op_cat (pe_lst (pa_cons (pe_ix ix_list (pv 0) (pe_ix ix_list (pv 2) pe_int (fun _ _ => rfl)) (fun _ _ => rfl)) pa_nil)) (pv 2)))))
      (pss_one (ps_ret (pv 2))))), ?_⟩
    refine ⟨_, rfl, (by show 1 ≤ sizeLine; decide), fun l hl => ?_⟩
    refine ⟨fun m σ H' => Same H H' ∧ ∃ (us : List Nat) (p : Addr), σ = [some (.ref a), some (num i), some (.ref p)] ∧ H p = none ∧ H' p = some (.lst ((m :: us).map num)) ∧ line ow m ++ us = line ow i ∧ us.length + m ≤ i, ⟨i, same_new hl, [], l, rfl, hl, upd_same, List.append_nil _, by simp⟩, ?_⟩
    rintro m σ H' ⟨sm, us, p, rfl, np, hL, hli, hle⟩
    refine ⟨_, rfl, p, _, 0, num m, rfl, rfl, SqL.of hL, atI_nat (j := 0) rfl, _, _, rfl, rfl, _, rfl, ?_⟩
    refine ite2 (fun hgt => ?_) (fun hgt => ?_)
    · have hm : 0 < m := by have := of_decide_eq_true hgt; omega
      refine ⟨fun σ' H'' => ∃ m', m' < m ∧ Same H H'' ∧ ∃ (us : List Nat) (p : Addr), σ' = [some (.ref a), some (num i), some (.ref p)] ∧ H p = none ∧ H'' p = some (.lst ((m' :: us).map num)) ∧ line ow m' ++ us = line ow i ∧ us.length + m' ≤ i, fun σ' H'' z => z, ?_⟩
      have hp := par_lt low hm
      refine ⟨_, rfl, _, rfl, p, _, 0, num m, rfl, rfl, SqL.of hL, atI_nat (j := 0) rfl, ?_⟩
      refine ⟨a, _, _, _, rfl, rfl, SqL.of (sm _ _ hO), at_own hm (by omega), ?_⟩
      refine ⟨(by show 1 ≤ sizeLine; decide), fun p1 n1 => ?_⟩
      refine ⟨_, rfl, p1, p, _, _, rfl, rfl, upd_same, kep hL n1, ?_, fun p2 n2 => ?_⟩
      · rw [List.length_map]
        have : 1000 ≤ sizeLine := by decide
        show 1 + (us.length + 1) ≤ sizeLine
        omega
      · refine ⟨par ow m, hp, sm.trans ((same_new n1).trans (same_new n2)), m :: us, p2, rfl, none_of sm (none_of (same_new n1) n2), upd_same, ?_, ?_⟩
        · rw [← hli, line_step low hm, List.append_assoc]
          rfl
        · show us.length + 1 + _ ≤ i
          omega
    · have e : m = 0 := by
        by_cases z : 0 < m
        · exact absurd (decide_eq_true (by show (m : Int) > 0; omega)) hgt
        · omega
      subst e
      refine ⟨_, rfl, q p H' np sm ?_⟩
      rw [hL, ← hli]
      rfl
end
end K10
set_option maxHeartbeats 1000000
namespace K10
open PySem PySem.Spec PyProof.Rows L2 Gd Gs
open C8 (clsBody Met pe_mt pe_mt0)
section
variable {P : Program} {w : World} {K : PySem.W.Frag} {mg : Str → Option Value} {base : Heap} {CM CL : Addr}
def spOwners (K : PySem.W.Frag) : Sp := fun vs H Q _ => ∃ (a : Addr) (most : Int) (ns : List Int), vs = [.ref a, .int most] ∧ most ≤ 64 ∧ SqL K H a (ns.map V.int) ∧ ns.length ≤ 63 ∧
  ∀ (p : Addr) (H' : Hp) (ow : List Nat), H p = none → Same H H' → OwL H' p ow → Low ow → ow.length ≤ 63 → Q (.ref p) H'
theorem ok_owners (T : Txt K mg) (c__law_cell : CalG P w K mg base 1 "_law_cell" (spCell K)) (c__law_box : CalG P w K mg base 1 "_law_box" spBox) (c__law_take : CalG P w K mg base 1 "_law_take" spTake)
    (c__law_pick : CalG P w K mg base 2 "_law_pick" spPick) (D : DefAt K mg "_law_owners" s__law_owners ["_law_script", "_law_most"]) : CalG P w K mg base 3 "_law_owners" (spOwners K) := by
  refine D.cal sc__law_owners (fun vs H Q E h => ?_) (fun f cdv A outer s H vs Q E hG hr h => ?_)
  · obtain ⟨a, most, ns, rfl, _⟩ := h
    rfl
  · obtain ⟨a, most, ns, rfl, hmost, hS, hl, q⟩ := h
    refine ⟨_, (pss_cons (ps_set (i := 2) sc__law_owners.nd rfl (Or.inl rfl) (pe_lst (pa_cons pe_non pa_nil)))
      (pss_cons (ps_for PassesOwn.never rfl (pi_range2 rfl T.b_range (pa_cons pe_int (pa_cons (pe_callB (call_max2 rfl) (by rfl) T.b_max boot_max_ (pa_cons pe_int (pa_cons (pe_callB (call_min2 rfl) (by rfl) T.b_min boot_min_ (pa_cons (pe_callB call_len (by rfl) T.b_len boot_len_ (pa_cons (pv 0) pa_nil)) (pa_cons pe_int pa_nil))) pa_nil))) pa_nil))) (pg_name (i := 3) sc__law_owners.nd rfl (Or.inl rfl))
          (pss_cons (ps_set (i := 4) sc__law_owners.nd rfl (Or.inl rfl) (pe_g c__law_box hG (hr.mono (by decide)) (by rfl) (pa_cons (pe_g c__law_cell hG (hr.mono (by decide)) (by rfl) (pa_cons (pv 0) (pa_cons (pv 3) pa_nil))) pa_nil)))
          (pss_cons (ps_set (i := 5) sc__law_owners.nd rfl (Or.inl rfl) (pe_ix ix_list (pe_lst (pa_cons pe_int (pa_cons pe_int (pa_cons pe_int (pa_cons pe_int pa_nil))))) (pe_g c__law_take hG (hr.mono (by decide)) (by rfl) (pa_cons (pv 4) (pa_cons pe_int pa_nil))) (fun _ _ => rfl)))
          (pss_one (ps_for PassesOwn.never rfl (pi_range1 rfl T.b_range (pa_cons (pv 5) pa_nil)) (pg_name (i := 6) sc__law_owners.nd rfl (Or.inl rfl))
              (pss_one (ps_if (pt_cmpR op_lt (pe_callB call_len (by rfl) T.b_len boot_len_ (pa_cons (pv 2) pa_nil)) (pv 1) (nomark _))
                  (pss_one (ps_expr (pe_bm PySem.F.plainAttrs_list PySem.F.slot_list_append PySem.F.type_list_append mt_append (pv 2) (pa_cons (pe_ifExp (pt_cmpR op_eq (pv 5) pe_int (nomark _)) (pe_op op_sub (pe_callB call_len (by rfl) T.b_len boot_len_ (pa_cons (pv 2) pa_nil)) pe_int) (pe_g c__law_pick hG (hr.mono (by decide)) (by rfl) (pa_cons (pv 4) (pa_cons (pe_callB call_len (by rfl) T.b_len boot_len_ (pa_cons (pv 2) pa_nil)) pa_nil)))) pa_nil)))) pss_nil)))))))
      (pss_one (ps_ret (pv 2))))), ?_⟩
    refine ⟨(by show 1 ≤ sizeLine; decide), fun p hp => ?_⟩
    have sm0 : Same H (upd H p (.lst [.non])) := same_new hp
    refine ⟨_, rfl, .ref a, (ns.map V.int).length, rfl, .inl ⟨_, sm0.seq hS, rfl⟩, _, _, rfl, _, _, rfl, ?_⟩
    refine ⟨1, _, rfl, ⟨by decide, by decide, ?_, ?_⟩, ?_⟩
    · rw [List.length_map]
      split <;> split <;> omega
    · rw [List.length_map]
      split <;> split <;> omega
    refine for_range (fun i σ H' => Same H H' ∧ ∃ (ow : List Nat) (y3 y4 y5 y6 : Option V), σ = [some (.ref a), some (.int most), some (.ref p), y3, y4, y5, y6] ∧ OwL H' p ow ∧ Low ow ∧ ow.length ≤ 63)
      ⟨sm0, [], none, none, none, none, rfl, upd_same, (fun _ _ z => nomatch z), Nat.zero_le _⟩ (fun i σ H1 hi hP => ?_) (fun σ H' hP => ?_)
    · obtain ⟨sm, ow, y3, y4, y5, y6, rfl, hO, low, few⟩ := hP
      refine ⟨_, rfl, _, rfl, a, ns, _, rfl, sm.seq hS, hl, by omega, fun n => ⟨n, rfl, fun b H2 hb hB2 k2 => ?_⟩⟩
      have sm2 : Same H H2 := same_keep sm hb fun c o hc z => (k2 c hc).trans z
      have hbp : p ≠ b := ne_of_none (show H1 p = some _ from hO) hb
      have nb : ∀ c o, H c = some o → c ≠ b := fun c o z => ne_of_none (sm c o z) hb
      have hO2 : OwL H2 p ow := (k2 p hbp).trans hO
      refine ⟨(by show 4 ≤ sizeLine; decide), fun l hl0 => ?_⟩
      have hB2' := hB2.upd (o := .lst [.int 1, .int 2, .int 1, .int 8]) hl0
      refine ⟨_, rfl, b, 4, rfl, hB2', by decide, by decide, fun d H3 g0 g1 hB3 k3 => ?_⟩
      have hL : H3 l = some (.lst [.int 1, .int 2, .int 1, .int 8]) := (k3 l (hB2.ne hl0)).trans upd_same
      obtain ⟨v, hv, hat⟩ := pickL [.int 1, .int 2, .int 1, .int 8] g0 (by show d < ((4 : Nat) : Int); omega)
      obtain ⟨M, rfl, hM0, hM1⟩ : ∃ M : Int, v = .int M ∧ 0 ≤ M ∧ M ≤ 8 := by
        simp only [List.mem_cons, List.not_mem_nil, or_false] at hv
        rcases hv with rfl | rfl | rfl | rfl
        · exact ⟨_, rfl, by decide, by decide⟩
        · exact ⟨_, rfl, by decide, by decide⟩
        · exact ⟨_, rfl, by decide, by decide⟩
        · exact ⟨_, rfl, by decide, by decide⟩
      refine ⟨l, _, d, _, rfl, rfl, SqL.of hL, hat, ?_⟩
      have sm3 : Same H H3 := fun c o z => (k3 c (nb c o z)).trans (kep (sm2 c o z) hl0)
      have hO3 : OwL H3 p ow := (k3 p hbp).trans (kep hO2 hl0)
      refine ⟨_, rfl, M, rfl, by omega, by omega, ?_⟩
      refine for_range (fun j σ H' => Same H H' ∧ BoxAt H' b ∧ ∃ (ow : List Nat) (y6 : Option V), σ = [some (.ref a), some (.int most), some (.ref p), some (.int (1 + i)), some (.ref b), some (.int M), y6] ∧ OwL H' p ow ∧ Low ow ∧ ow.length ≤ 63)
        ⟨sm3, hB3, ow, _, rfl, hO3, low, few⟩ (fun j σ H4 hj hP => ?_) (fun σ H' hP => ?_)
      · clear hO hO2 hO3 low few
        obtain ⟨sm4, hB4, ow, y6, rfl, hO4, low, few⟩ := hP
        have hlen : (V.non :: ow.map num).length = ow.length + 1 := by rw [List.length_cons, List.length_map]
        refine ⟨_, rfl, .ref p, _, rfl, .inl ⟨_, SqL.of hO4, rfl⟩, _, rfl, _, _, rfl, rfl, _, rfl, ?_⟩
        refine ite2 (fun hlt => ?_) (fun _ => ⟨sm4, hB4, ow, _, rfl, hO4, low, few⟩)
        have hlt2 : ow.length < 63 := by
          have := of_decide_eq_true hlt
          rw [hlen] at this
          omega
        refine ⟨_, rfl, .inl ⟨rfl, _, SqL.of hO4⟩, ?_⟩
        refine ⟨_, rfl, rfl, _, rfl, ite2 (fun _ => ?_) (fun _ => ?_)⟩
        · refine ⟨_, rfl, .ref p, _, rfl, .inl ⟨_, SqL.of hO4, rfl⟩, _, _, rfl, rfl, ?_⟩
          rw [hlen]
          refine ⟨p, _, _, rfl, rfl, hO4, small1000 (by omega), fun c o z => ?_, boxAway hB4 hbp, ow ++ [ow.length], _, rfl, ?_, low_more low (Nat.le_refl _), ?_⟩
          · rw [upd_ne (ne_of_none z hp)]
            exact sm4 c o z
          · have e : (((ow.length + 1 : Nat) : Int) - 1) = ((ow.length : Nat) : Int) := by omega
            show (upd H4 p (.lst (V.non :: List.map num ow ++ [V.int (((ow.length + 1 : Nat) : Int) - 1)]))) p = _
            rw [e, upd_same, List.map_append]
            rfl
          · rw [List.length_append]
            show ow.length + 1 ≤ 63
            omega
        · refine ⟨_, rfl, _, rfl, .ref p, _, rfl, .inl ⟨_, SqL.of hO4, rfl⟩, b, ow.length + 1, ?_, hB4, by omega, by omega, fun d H5 hd hB5 k5 => ?_⟩
          · rw [hlen]
            rfl
          · have hO5 : OwL H5 p ow := k5 _ _ hbp hO4
            refine ⟨p, _, _, rfl, rfl, hO5, small1000 (by omega), fun c o z => ?_, boxAway hB5 hbp, ow ++ [d], _, rfl, ?_, low_more low (by omega), ?_⟩
            · rw [upd_ne (ne_of_none z hp)]
              exact k5 _ _ (nb c o z) (sm4 c o z)
            · show upd _ _ _ _ = _
              rw [upd_same, List.map_append]
              rfl
            · rw [List.length_append]
              show ow.length + 1 ≤ 63
              omega
      · obtain ⟨sm4, hB4, ow, y6, rfl, hO4, low, few⟩ := hP
        exact ⟨sm4, ow, _, _, _, _, rfl, hO4, low, few⟩
    · obtain ⟨sm, ow, y3, y4, y5, y6, rfl, hO, low, few⟩ := hP
      exact ⟨_, rfl, q p H' ow hp sm hO low few⟩
/-! ### a tree grown after the law's list -/
theorem Lw.cut {C t : Addr} {N : Addr → Prop} {H : Hp} {ow : List Nat} (l : Lw C N H t ow) : Lw C (fun c => N c ∧ H c ≠ none) H t ow := by
  obtain ⟨N1, N2, dx, q, fs, tw, e1, l1, lv, dis, i1, i2⟩ := l.ex
  obtain ⟨ls, h1, h2, h3, h4⟩ := lv.ex
  refine ⟨_, (fun c => N2 c ∧ H c ≠ none), dx, q, fs, tw.cut, e1, l1, ⟨ls, h1, h2, ⟨h3, fun z => by rw [h1] at z; cases z⟩, fun i a ha => ?_⟩, fun c h1 h2 => dis c h1.1 h2.1, fun c h => ⟨i1 _ h.1, h.2.2⟩, fun c h => ⟨i2 _ h.1, h.2⟩⟩
  obtain ⟨a1, a2, a3⟩ := h4 i a ha
  exact ⟨⟨a1, fun z => by rw [a3] at z; cases z⟩, a2, a3⟩
theorem RK.cut {kind : Int} {t : Addr} {N : Addr → Prop} {H : Hp} {ow : List Nat} (r : RK CM CL kind N H t ow) : RK CM CL kind (fun c => N c ∧ H c ≠ none) H t ow := by
  rcases r with ⟨h, r⟩ | ⟨h, r⟩
  · exact .inl ⟨h, r.cut⟩
  · refine .inr ⟨h, ?_⟩
    obtain ⟨dx, o, d, n, fs, ns, e1, l1, l2, l3, nl, e2, e3, e4, lf, hns, od, on, dn, hin, No, Nd, Nn⟩ := r.cut.ex
    refine ⟨⟨dx, o, d, n, fs, ns, e1, l1, l2, l3, nl, e2, e3, e4, lf, hns, od, on, dn, fun a ha => ?_, ⟨No.1, No.2.2⟩, ⟨Nd.1, Nd.2.2⟩, ⟨Nn.1, Nn.2.2⟩⟩, r.low, r.few⟩
    obtain ⟨h1, a1, a2, a3, a4⟩ := hin a ha
    exact ⟨h1, a1, a2, a3, a4.1, a4.2.2⟩
theorem RK.same {kind : Int} {t : Addr} {N : Addr → Prop} {H H' : Hp} {ow : List Nat} (r : RK CM CL kind N H t ow) (s : Same H H') : RK CM CL kind N H' t ow := by
  rcases r with ⟨h, r⟩ | ⟨h, r⟩
  · obtain ⟨N1, N2, dx, q, fs, tw, e1, l1, lv, dis, i1, i2⟩ := r.ex
    exact .inl ⟨h, ⟨N1, N2, dx, q, fs, tw.kp fun c u _ z => s c u z, s _ _ e1, l1, lv.mono (fun _ z => z) fun c u _ z => s c u z, dis, i1, i2⟩⟩
  · exact .inr ⟨h, r.kp fun c u _ z => s c u z⟩
theorem RK.kp {kind : Int} {t : Addr} {N : Addr → Prop} {H H' : Hp} {ow : List Nat} (r : RK CM CL kind N H t ow) (k : ∀ c u, (N c ∨ c = t) → H c = some u → H' c = some u) : RK CM CL kind N H' t ow := by
  rcases r with ⟨h, r⟩ | ⟨h, r⟩
  · obtain ⟨N1, N2, dx, q, fs, tw, e1, l1, lv, dis, i1, i2⟩ := r.ex
    exact .inl ⟨h, ⟨N1, N2, dx, q, fs, tw.kp fun c u y z => k c u (y.imp (i1 c) id) z, k _ _ (.inr rfl) e1, l1, lv.mono (fun _ z => z) fun c u y z => k c u (.inl (i2 c y)) z, dis, i1, i2⟩⟩
  · exact .inr ⟨h, r.kp k⟩
theorem RK.tr {kind : Int} {t : Addr} {N : Addr → Prop} {H : Hp} {ow : List Nat} (r : RK CM CL kind N H t ow) : ∃ C, (C = CM ∨ C = CL) ∧ Tr H t C ow (depths ow) := by
  rcases r with ⟨h, r⟩ | ⟨h, r⟩
  · exact ⟨CL, .inr rfl, r.tr⟩
  · exact ⟨CM, .inl rfl, r.tr⟩
def spBuilt (CM CL : Addr) : Sp := fun vs H Q _ => ∃ (kind : Int) (a : Addr) (ow : List Nat), vs = [.int kind, .ref a] ∧ OwL H a ow ∧ Low ow ∧ ow.length ≤ 63 ∧
  ∀ (t : Addr) (H' : Hp) (N : Addr → Prop), RK CM CL kind N H' t ow → (∀ c, N c → H c = none) → H t = none → Same H H' → Q (.ref t) H'
theorem ok_built (T : Txt K mg) (k : Kinds P w K mg base CM CL) (c__law_tree : CalG P w K mg base 4 "_law_tree" (spTree CM CL)) (D : DefAt K mg "_law_built" s__law_built ["_law_kind", "_law_owners_here"]) : CalG P w K mg base 5 "_law_built" (spBuilt CM CL) := by
  refine D.cal sc__law_built (fun vs H Q E h => ?_) (fun f cdv A outer s H vs Q E hG hr h => ?_)
  · obtain ⟨kind, a, ow, rfl, _⟩ := h
    rfl
  · obtain ⟨kind, a, ow, rfl, hO, low, few, q⟩ := h
    obtain ⟨C, hC, m_grow, hR⟩ := k.grow kind
    refine ⟨_, (pss_cons (ps_set (i := 2) sc__law_built.nd rfl (Or.inl rfl) (pe_g c__law_tree hG (hr.mono (by decide)) (by rfl) (pa_cons (pv 0) pa_nil)))
      (pss_cons (ps_for PassesOwn.never rfl (pi_list (pe_slice sl_list (pv 1) (po_some pe_int) po_none)) (pg_name (i := 3) sc__law_built.nd rfl (Or.inl rfl))
          (pss_one (ps_expr (pe_mt m_grow hr (by decide) (pv 2) (pa_cons (pv 3) pa_nil)))))
      (pss_one (ps_ret (pv 2))))), ?_⟩
    refine ⟨_, rfl, kind, rfl, fun t H1 N1 rk s1 n1 nt => ?_⟩
    refine ⟨_, rfl, _, rfl, a, _, rfl, SqL.of (s1 _ _ hO), fun p hp => ?_⟩
    rw [show (some (1 : Int)) = some (((1 : Nat) : Int)) from rfl, cut_from, List.drop_one, List.tail_cons]
    refine ⟨p, rfl, ⟨_, SqL.of upd_same⟩, ?_⟩
    have np : H p = none := none_of s1 hp
    refine for_list (K := K) (a := p) (xs := ow.map num) (fun i σ H' => Same H H' ∧ H' p = some (.lst (ow.map num)) ∧ ∃ (N : Addr → Prop) (y : Option V), σ = [some (.int kind), some (.ref a), some (.ref t), y] ∧ RK CM CL kind N H' t (ow.take i) ∧ ¬ N p ∧ (∀ c, N c → H c = none))
      ⟨s1.trans (same_new hp), upd_same, (fun c => N1 c ∧ H1 c ≠ none), none, rfl, rk.cut.same (same_new hp), fun z => z.2 hp, fun c z => n1 c z.1⟩ (fun i σ H' _ hP => SqL.of hP.2.1) (fun i x σ H2 hi hP => ?_) (fun σ H' hP => ?_)
    · obtain ⟨sm, hp2, N, y, rfl, rk2, nN, fr⟩ := hP
      rw [List.getElem?_map] at hi
      cases hj : ow[i]? with
      | none =>
        rw [hj] at hi
        cases hi
      | some j =>
        rw [hj] at hi
        cases (show some (num j) = some x from hi)
        have hlen : i < ow.length := by
          by_cases z : i < ow.length
          · exact z
          · rw [List.getElem?_eq_none (by omega)] at hj
            cases hj
        have tr := hR _ _ _ _ rk2
        obtain ⟨dx, o, d, n, fs, e1, l1, l2, l3, nl, _⟩ := tr.ex
        have hlt : (ow.take i).length = i := by rw [List.length_take]; omega
        refine ⟨_, rfl, t, dx, fs, rfl, e1, nl _ (by decide), _, rfl, t, ow.take i, j, N, rfl, rk2, ?_, by omega, fun H3 N3 rk3 k3 n3 => ?_⟩
        · rw [hlt]
          exact low _ _ hj
        · refine ⟨fun c u z => k3 _ _ (fun y => by rw [fr _ y] at z; cases z) (sm _ _ z), k3 _ _ nN hp2, N3, _, rfl, ?_, fun z => ?_, fun c z => ?_⟩
          · rw [List.take_add_one, hj]
            exact rk3
          · rcases n3 _ z with h | h
            · exact nN h
            · rw [hp2] at h
              cases h
          · rcases n3 _ z with h | h
            · exact fr _ h
            · exact none_of sm h
    · obtain ⟨sm, hp2, N, y, rfl, rk2, _, fr⟩ := hP
      have e : ow.take (ow.map num).length = ow := by
        rw [List.length_map]
        exact List.take_length
      rw [e] at rk2
      exact ⟨_, rfl, q t H' N rk2 fr nt sm⟩
end
end K10
set_option maxHeartbeats 1000000

namespace K10
open PySem PySem.Spec PyProof.Rows L2 Gd Gs Ge Gx
open C8 (clsBody Met pe_mt pe_mt0)
section
variable {P : Program} {w : World} {K : PySem.W.Frag} {mg : Str → Option Value} {base : Heap} {C CN fN CM0 : Addr}
theorem MAt.metX {m qual : Str} {st : Stmt} {N ps : List Str} {k : Nat} {sp : Sp} (M : MAt K C m qual st ps) (cl : Cls K C) (S : FnScope N ps (defScope st))
    (ar : ∀ vs H Q E, sp vs H Q E → vs.length = ps.length)
    (bd : ∀ (f : Addr) (cdv : Value) (A : Around) (outer : List Env) (s : Shared) (H : Hp) (vs : List V) (Q : VK) (E : XK), Room k (A.deeper (envOfC qual (defScope st) s.heap.objs.size f cdv)) → sp vs H Q E →
      ∃ t, PSs (cxOf (L2.CX P w) P w K mg base N qual (defScope st) f cdv A outer s H E) (defBody st) t ∧ t { nx := fun _ H' => Q .non H', rt := Q } (start N vs) H) : MetX P w K mg base (k + 1) C m sp := by
  obtain ⟨f, fd, F, me, b⟩ := M.ex
  exact ⟨f, fd, ps, cl, me, F.okX S ar (bd f), b⟩
/-- what the written part says of NoNumber -/
structure ErrN (P : Program) (K : PySem.W.Frag) (mg : Str → Option Value) (CN fN CM0 : Addr) : Prop where
  e_NoNumber : ErrTxt P K CN fN "NoNumber.__init__" "this is no such number"
  i_NoNumber : IsTxt K CN
  g_NoNumber : mg "NoNumber" = some (.ref CN)
  g_MakesError : mg "MakesError" = some (.ref CM0)
  k_NoNumber : PySem.W.kitOne K (.ref CN) (.ref CN) = some true
  m_NoNumber : PySem.W.exmOne K (.ref CN) (.ref CM0) = some true
def wholeD (d : PyData) (lo hi : Int) : Bool := match d with
  | .int n => decide (lo ≤ n) && decide (n ≤ hi)
  | _ => false
theorem d1Int {H : Hp} {v : V} {n : Int} (h : D1 K H v (.int n)) : v = .int n := by
  cases h with
  | dp h =>
    cases h
    rfl
def spWhole (K : PySem.W.Frag) : Sp := fun vs H Q _ => ∃ (v : V) (d : PyData) (lo hi : Int), vs = [v, .int lo, .int hi] ∧ D1 K H v d ∧ Q (.bl (wholeD d lo hi)) H
theorem chain_end {lo n hi : Int} {Q : VK} {H : Hp} (q : Q (.bl (wholeD (.int n) lo hi)) H) :
    (if decide (lo ≤ n) = true then Q (.bl (decide (n ≤ hi))) H else Q (.bl false) H) := by
  have e : wholeD (.int n) lo hi = (decide (lo ≤ n) && decide (n ≤ hi)) := rfl
  rw [e] at q
  by_cases hl : lo ≤ n
  · rw [decide_eq_true hl] at q ⊢
    exact iteT q
  · rw [decide_eq_false hl] at q ⊢
    exact iteF q
theorem ok_whole (T : Txt K mg) (D : DefAt K mg "is_whole" s_is_whole ["thing", "low", "high"]) : C8.Cal P w K mg base 1 "is_whole" (spWhole K) [] := by
  obtain ⟨f, fd, F, m, b⟩ := D.ex
  refine ⟨f, fd, _, [], F.ok sc_is_whole (fun vs H Q E h => ?_) (fun cdv A outer s H vs Q E hr h => ?_), m, F.kp, b, .nil⟩
  · obtain ⟨v, d, lo, hi, rfl, _⟩ := h
    rfl
  · obtain ⟨v, d, lo, hi, rfl, hd, q⟩ := h
    have ty := tyD hd
    refine ⟨_, (pss_one (ps_ret (pe_and (pe_callB call_isi (by rfl) T.b_isinstance boot_isinstance_ (pa_cons (pv 0) (pa_cons (pe_bltn (v := .ty "int") (by rfl) T.t_int boot_int_ rfl) pa_nil))) (pe_and (pe_not (pe_callB call_isi (by rfl) T.b_isinstance boot_isinstance_ (pa_cons (pv 0) (pa_cons (pe_bltn (v := .ty "bool") (by rfl) T.t_bool boot_bool_ rfl) pa_nil)))) (pe_one (pe_chain op_le op_le (pv 1) (pv 0) (pv 2))))))), ?_⟩
    refine ⟨_, rfl, v, .ty "int", _, .type "int", _, rfl, .ty _, ty, kInt d, _, rfl, ?_⟩
    cases d with
    | int n =>
      cases d1Int hd
      refine iteT ?_
      refine ⟨_, rfl, _, .ty "bool", _, .type "bool", _, rfl, .ty _, ty, kBool _, _, rfl, _, rfl, ?_⟩
      refine iteT ?_
      refine ⟨_, rfl, _, rfl, _, _, rfl, rfl, _, rfl, ?_⟩
      have z := chain_end (Q := Q) q
      split
      · rename_i hl
        rw [if_pos hl] at z
        exact ⟨_, rfl, _, _, rfl, rfl, z⟩
      · rename_i hl
        rw [if_neg hl] at z
        exact z
    | bool x =>
      refine iteT ?_
      refine ⟨_, rfl, _, .ty "bool", _, .type "bool", _, rfl, .ty _, ty, kBool _, _, rfl, _, rfl, ?_⟩
      exact iteF q
    | none => exact iteF q
    | str x => exact iteF q
    | list x => exact iteF q
    | tuple x => exact iteF q
    | dict x => exact iteF q
def spSteps (K : PySem.W.Frag) (CN C : Addr) : Sp := fun vs H Q E => ∃ (t : Addr) (ow ds : List Nat) (i : Nat) (v : V) (d : PyData), vs = [.ref t, num i, v] ∧ Tr H t C ow ds ∧ i ≤ ow.length ∧ D1 K H v d ∧
  (wholeD d 0 (dep ow i : Nat) = true → Q .non H) ∧ (wholeD d 0 (dep ow i : Nat) = false → ∀ a, H a = none → E (.ref CN) (some a) (upd H a (.xd [("found", v)])))
theorem ok_steps (T : Txt K mg) (R : ErrN P K mg CN fN CM0) (TC : TreeC K C) (c_is_whole : C8.Cal P w K mg base 1 "is_whole" (spWhole K) []) (M : MAt K C "_need_steps" "MakeTree._need_steps" s_MakeTree__need_steps ["self", "make", "steps"]) :
    MetX P w K mg base 2 C "_need_steps" (spSteps K CN C) := by
  refine M.metX TC.cl sc_MakeTree__need_steps (fun vs H Q E h => ?_) (fun f cdv A outer s H vs Q E hr h => ?_)
  · obtain ⟨t, ow, ds, i, v, d, rfl, _⟩ := h
    rfl
  · obtain ⟨t, ow, ds, i, v, d, rfl, tr, hi, hd, q1, q2⟩ := h
    obtain ⟨dx, o, de, n, fs, e1, l1, l2, l3, nl, e2, e3, lf⟩ := tr.ex
    refine ⟨_, (pss_one (ps_if (pt_not (pt_val (C8.pe_c c_is_whole hr (by decide) (by rfl) (pa_cons (pv 2) (pa_cons pe_int (pa_cons (pe_ix ix_list (pe_fld (pv 0) rfl) (pv 1) (fun _ _ => rfl)) pa_nil))))))
          (pss_one (ps_raiseE rfl R.e_NoNumber R.g_NoNumber hr (takes_of rfl rfl rfl rfl) (by exact (pa_cons (pv 2) pa_nil)) (by rfl))) pss_nil)), ?_⟩
    refine ⟨_, rfl, _, rfl, t, C, dx, fs, .ref de, rfl, e1, TC.cl, TC.n_depths, l2, _, rfl, de, _, _, _, rfl, rfl, SqL.of e3, (by rw [tr.deep]; exact depths_at hi), ?_⟩
    refine ⟨v, d, 0, _, rfl, hd, ?_⟩
    cases hw : wholeD d 0 (dep ow i : Nat) with
    | true =>
      have hw2 : wholeD d 0 (((line ow i).length - 1 : Nat) : Int) = true := hw
      refine ⟨_, rfl, ?_⟩
      rw [hw2]
      exact iteF (q1 hw)
    | false =>
      have hw2 : wholeD d 0 (((line ow i).length - 1 : Nat) : Int) = false := hw
      refine ⟨_, rfl, ?_⟩
      rw [hw2]
      exact iteT ⟨_, rfl, v, rfl, q2 hw⟩
theorem num_of {d : PyData} {H : Hp} {v : V} {n : Nat} (hd : D1 K H v d) (h : wholeD d 0 (n : Nat) = true) : ∃ s : Nat, d = .int (s : Nat) ∧ v = num s ∧ s ≤ n := by
  cases d with
  | int m =>
    have e : wholeD (.int m) 0 (n : Nat) = (decide (0 ≤ m) && decide (m ≤ (n : Nat))) := rfl
    rw [e, Bool.and_eq_true, decide_eq_true_eq, decide_eq_true_eq] at h
    cases d1Int hd
    exact ⟨m.toNat, by congr 1; omega, by show V.int m = V.int _; congr 1; omega, by omega⟩
  | _ => cases h
end
end K10
set_option maxHeartbeats 1000000
namespace K10
open PySem PySem.Spec PyProof.Rows L2 Gd Gs Gx Ge
open NdefX (NScope nscope_by ncx startF NF)
open C8 (clsBody Met pe_mt pe_mt0)
section
variable {P : Program} {w : World} {K : PySem.W.Frag} {mg : Str → Option Value} {base : Heap} {C CN fN CM0 CT fT CK fK CM CL : Addr}
def spLine (C : Addr) : Sp := fun vs H Q _ => ∃ (t : Addr) (ow ds : List Nat) (i : Nat), vs = [.ref t, num i] ∧ Tr H t C ow ds ∧ i ≤ ow.length ∧ ∀ (p : Addr) (H' : Hp), H p = none → Same H H' → H' p = some (.lst ((line ow i).map num)) → Q (.ref p) H'
theorem ok_line (T : Txt K mg) (TC : TreeC K C) (m__need_make : Met P w K mg base 2 C "_need_make" (spNeed C) []) (M : MAt K C "line" "MakeTree.line" s_MakeTree_line ["self", "make"]) :
    Met P w K mg base 3 C "line" (spLine C) [] := by
  refine M.met TC.cl sc_MakeTree_line (fun vs H Q E h => ?_) (fun f cdv A outer s H vs Q E hr h => ?_)
  · obtain ⟨t, ow, ds, i, rfl, _⟩ := h
    rfl
  · obtain ⟨t, ow, ds, i, rfl, tr, hi, q⟩ := h
    obtain ⟨dx, o, d, n, fs, e1, l1, l2, l3, nl, e2, e3, lf⟩ := tr.ex
    refine ⟨_, (pss_cons (ps_expr (pe_mt m__need_make hr (by decide) (pv 0) (pa_cons (pv 1) pa_nil)))
      (pss_cons (ps_set (i := 2) sc_MakeTree_line.nd rfl (Or.inl rfl) (pe_lst (pa_cons (pv 1) pa_nil)))
      (pss_cons (ps_while PassesOwn.never (pt_cmpR op_notN (pe_ix ix_list (pe_fld (pv 0) rfl) (pe_ix ix_list (pv 2) (pe_un un_neg pe_int) (fun _ _ => rfl)) (fun _ _ => rfl)) pe_non (nomark _))
          (pss_one (ps_expr (pe_bm PySem.F.plainAttrs_list PySem.F.slot_list_append PySem.F.type_list_append mt_append (pv 2) (pa_cons (pe_ix ix_list (pe_fld (pv 0) rfl) (pe_ix ix_list (pv 2) (pe_un un_neg pe_int) (fun _ _ => rfl)) (fun _ _ => rfl)) pa_nil)))))
      (pss_one (ps_ret (pe_revL (pv 2))))))), ?_⟩
    refine ⟨_, rfl, t, dx, fs, rfl, e1, nl _ (by decide), _, rfl, t, ow, ds, i, rfl, tr, hi, ?_⟩
    refine ⟨_, rfl, (by show 1 ≤ sizeLine; decide), fun l hl => ?_⟩
    refine ⟨fun m σ H' => Same H H' ∧ ∃ us : List Nat, σ = [some (.ref t), some (num i), some (.ref l)] ∧ H' l = some (.lst ((us ++ [m]).map num)) ∧ line ow m ++ us.reverse = line ow i ∧ us.length + m ≤ i, ⟨i, same_new hl, [], rfl, upd_same, List.append_nil _, by simp⟩, ?_⟩
    rintro m σ H' ⟨sm, us, rfl, hL, hli, hle⟩
    have hlast : atI ((us ++ [m]).map num) (-1) = some (num m) := by
      rw [List.map_append]
      exact atI_last _ _
    have few := tr.few
    refine ⟨_, rfl, t, C, dx, fs, .ref o, rfl, sm _ _ e1, TC.cl, TC.n_owns, l1, _, rfl, _, rfl, l, _, _, _, rfl, rfl, SqL.of hL, hlast, ?_⟩
    by_cases hm : 0 < m
    · refine ⟨o, _, _, _, rfl, rfl, SqL.of (sm _ _ e2), at_own hm (by omega), rfl, _, rfl, iteT ?_⟩
      have hp := par_lt tr.low hm
      refine ⟨fun σ' H'' => ∃ m', m' < m ∧ Same H H'' ∧ ∃ us : List Nat, σ' = [some (.ref t), some (num i), some (.ref l)] ∧ H'' l = some (.lst ((us ++ [m']).map num)) ∧ line ow m' ++ us.reverse = line ow i ∧ us.length + m' ≤ i, fun σ' H'' z => z, ?_⟩
      refine ⟨_, rfl, .inl ⟨rfl, _, SqL.of hL⟩, ?_⟩
      refine ⟨_, rfl, t, C, dx, fs, .ref o, rfl, sm _ _ e1, TC.cl, TC.n_owns, l1, _, rfl, _, rfl, l, _, _, _, rfl, rfl, SqL.of hL, hlast, ?_⟩
      refine ⟨o, _, _, _, rfl, rfl, SqL.of (sm _ _ e2), at_own hm (by omega), ?_⟩
      refine ⟨l, _, _, rfl, rfl, hL, ?_, par ow m, hp, fun c u z => ?_, us ++ [m], rfl, ?_, ?_, ?_⟩
      · rw [List.length_map, List.length_append]
        exact small1000 (by show us.length + 1 ≤ 1000; omega)
      · rw [upd_ne (ne_of_none z hl)]
        exact sm c u z
      · rw [upd_same, List.map_append (f := num) (l₁ := us ++ [m])]
        rfl
      · rw [List.reverse_append, ← hli, line_step tr.low hm, List.append_assoc]
        rfl
      · rw [List.length_append]
        show us.length + 1 + _ ≤ i
        omega
    · have e : m = 0 := by omega
      subst e
      refine ⟨o, _, _, _, rfl, rfl, SqL.of (sm _ _ e2), (atI_nat (j := 0) rfl), rfl, _, rfl, iteF ?_⟩
      refine ⟨_, rfl, l, _, rfl, SqL.of hL, fun p hp => ?_⟩
      refine q p _ ?_ (sm.trans (same_new hp)) ?_
      · cases z : H p with
        | none => rfl
        | some u =>
          have z2 := sm _ _ z
          rw [hp] at z2
          cases z2
      · rw [upd_same, ← List.map_reverse, List.reverse_append, ← hli]
        rfl
/-- the way, as the code goes it -/
def ownV (ow : List Nat) (i : Nat) : V := if i = 0 then .non else num (par ow i)
theorem at_any {ow : List Nat} {i : Nat} (h1 : i ≤ ow.length) : atI (V.non :: ow.map num) ((i : Nat) : Int) = some (ownV ow i) := by
  by_cases h0 : 0 < i
  · rw [at_own h0 h1]
    unfold ownV
    rw [if_neg (by omega)]
  · have e : i = 0 := by omega
    subst e
    exact atI_nat (j := 0) rfl
def spOwn (C : Addr) : Sp := fun vs H Q _ => ∃ (t : Addr) (ow ds : List Nat) (i : Nat), vs = [.ref t, num i] ∧ Tr H t C ow ds ∧ i ≤ ow.length ∧ Q (ownV ow i) H
theorem ok_own (T : Txt K mg) (TC : TreeC K C) (m__need_make : Met P w K mg base 2 C "_need_make" (spNeed C) []) (M : MAt K C "own" "MakeTree.own" s_MakeTree_own ["self", "make"]) :
    Met P w K mg base 3 C "own" (spOwn C) [] := by
  refine M.met TC.cl sc_MakeTree_own (fun vs H Q E h => ?_) (fun f cdv A outer s H vs Q E hr h => ?_)
  · obtain ⟨t, ow, ds, i, rfl, _⟩ := h
    rfl
  · obtain ⟨t, ow, ds, i, rfl, tr, hi, q⟩ := h
    obtain ⟨dx, o, d, n, fs, e1, l1, l2, l3, nl, e2, e3, lf⟩ := tr.ex
    refine ⟨_, (pss_cons (ps_expr (pe_mt m__need_make hr (by decide) (pv 0) (pa_cons (pv 1) pa_nil)))
      (pss_one (ps_ret (pe_ix ix_list (pe_fld (pv 0) rfl) (pv 1) (fun _ _ => rfl))))), ?_⟩
    refine ⟨_, rfl, t, dx, fs, rfl, e1, nl _ (by decide), _, rfl, t, ow, ds, i, rfl, tr, hi, ?_⟩
    exact ⟨_, rfl, t, C, dx, fs, .ref o, rfl, e1, TC.cl, TC.n_owns, l1, _, rfl, o, _, _, _, rfl, rfl, SqL.of e2, at_any hi, q⟩
/-- what the written part says of the other two errors -/
structure ErrT (P : Program) (K : PySem.W.Frag) (mg : Str → Option Value) (CT fT : Addr) : Prop where
  e_TooMany : Gc.ErrTxt P K CT fT "TooMany.__init__" "there would be too many"
  g_TooMany : mg "TooMany" = some (.ref CT)
structure ErrK (P : Program) (K : PySem.W.Frag) (mg : Str → Option Value) (CK fK : Addr) : Prop where
  e_NoMake : ErrTxt P K CK fK "NoMake.__init__" "this is no make"
  g_NoMake : mg "NoMake" = some (.ref CK)
def spFull (CT C : Addr) : Sp := fun vs H Q E => ∃ (t : Addr) (ow ds : List Nat) (i : Nat), vs = [.ref t, num i] ∧ Tr H t C ow ds ∧ i ≤ ow.length ∧ ow.length = 63 ∧ ∀ a, H a = none → E (.ref CT) (some a) (upd H a (.xd [("count", .int 65)]))
theorem fn_full {f : Addr} {fd : FuncData} (T : Txt K mg) (R : ErrT P K mg CT fT) (TC : TreeC K C) (m_many : Met P w K mg base 1 C "many" (spMany C) []) (m__need_make : Met P w K mg base 2 C "_need_make" (spNeed C) []) (F : Fun K "grow" "MakeTree.grow" s_MakeTree_grow f fd) :
    FnOk P w K mg base (L2.CX P w) 3 f fd ["self", "make"] (spFull CT C) := by
  refine F.okX sc_MakeTree_grow (fun vs H Q E h => ?_) (fun cdv A outer s H vs Q E hr h => ?_)
  · obtain ⟨t, ow, ds, i, rfl, _⟩ := h
    rfl
  · obtain ⟨t, ow, ds, i, rfl, tr, hi, hf, q⟩ := h
    obtain ⟨dx, o, d, n, fs, e1, l1, l2, l3, nl, e2, e3, lf⟩ := tr.ex
    refine ⟨_, (pss_cons (ps_expr (pe_mt m__need_make hr (by decide) (pv 0) (pa_cons (pv 1) pa_nil)))
      (pss_cons (ps_set (i := 2) sc_MakeTree_grow.nd rfl (Or.inl rfl) (pe_mt0 m_many hr (by decide) (pv 0)))
      (pss_cons (ps_if (pt_cmpR op_ge (pv 2) (pe_gi rfl T.g_MOST_MAKES) (nomark _))
          (pss_one (Gc.ps_raiseE rfl R.e_TooMany R.g_TooMany hr (takes_of rfl rfl rfl rfl) (by exact (pa_cons (pe_op op_add (pv 2) pe_int) pa_nil)) (by rfl))) pss_nil)
      (pss_cons (ps_expr (pe_bm PySem.F.plainAttrs_list PySem.F.slot_list_append PySem.F.type_list_append mt_append (pe_fld (pv 0) rfl) (pa_cons (pv 1) pa_nil)))
      (pss_cons (ps_expr (pe_bm PySem.F.plainAttrs_list PySem.F.slot_list_append PySem.F.type_list_append mt_append (pe_fld (pv 0) rfl) (pa_cons (pe_op op_add (pe_ix ix_list (pe_fld (pv 0) rfl) (pv 1) (fun _ _ => rfl)) pe_int) pa_nil)))
      (pss_cons (ps_expr (pe_bm PySem.F.plainAttrs_list PySem.F.slot_list_append PySem.F.type_list_append mt_append (pe_fld (pv 0) rfl) (pa_cons (pe_lst pa_nil) pa_nil)))
      (pss_cons (ps_expr (pe_bm PySem.F.plainAttrs_list PySem.F.slot_list_append PySem.F.type_list_append mt_append (pe_ix ix_list (pe_fld (pv 0) rfl) (pv 1) (fun _ _ => rfl)) (pa_cons (pv 2) pa_nil)))
      (pss_one (ps_ret (pv 2)))))))))), ?_⟩
    refine ⟨_, rfl, t, dx, fs, rfl, e1, nl _ (by decide), _, rfl, t, ow, _, i, rfl, tr, hi, ?_⟩
    refine ⟨_, rfl, t, dx, fs, rfl, e1, nl _ (by decide), t, ow, _, rfl, tr, ?_⟩
    refine ⟨_, rfl, _, _, rfl, rfl, _, rfl, ?_⟩
    rw [hf, show decide ((64 : Int) ≤ ((63 + 1 : Nat) : Int)) = true from by decide]
    exact iteT ⟨_, rfl, _, _, rfl, rfl, .int 65, rfl, q⟩
theorem ok_full (T : Txt K mg) (R : ErrT P K mg CT fT) (TC : TreeC K C) (m_many : Met P w K mg base 1 C "many" (spMany C) []) (m__need_make : Met P w K mg base 2 C "_need_make" (spNeed C) []) (M : MAt K C "grow" "MakeTree.grow" s_MakeTree_grow ["self", "make"]) :
    MetX P w K mg base 4 C "grow" (spFull CT C) := by
  obtain ⟨f, fd, F, me, b⟩ := M.ex
  exact ⟨f, fd, _, TC.cl, me, (fn_full T R TC m_many m__need_make F).mono (by decide), b⟩
theorem okL_full {g : Addr} {fd : FuncData} (T : Txt K mg) (R : ErrT P K mg CT fT) (TC : TreeC K C) (m_many : Met P w K mg base 1 C "many" (spMany C) []) (m__need_make : Met P w K mg base 2 C "_need_make" (spNeed C) []) (m__leaps_through : Met P w K mg base 1 C "_leaps_through" (spThrough C) [])
    (F : Fun K "grow" "MakeTree.grow" s_MakeTree_grow g fd) (hb : Binds K fd ["self", "make"] []) (S : SAt P K C "grow" "LeapTree.grow" s_LeapTree_grow ["self", "make"] g) :
    MetX P w K mg base 4 C "grow" (spFull CT C) := by
  obtain ⟨f, cc, c, oc, od, doc, pm, an, ct, osl, sup, lk, me, bi⟩ := S.ex
  refine ⟨f, _, _, TC.cl, me, ?_, bi⟩
  refine okS_set (i := 3) sup lk ns_grow rfl (fun vs H Q E h => ?_) rfl rfl rfl (fn_full T R TC m_many m__need_make F) hb (by rfl) (fun L => by rfl) (fun L => by rfl) (fun L => by rfl) (fun L => by rfl) ?_
  · obtain ⟨t, ow, ds, i, rfl, _⟩ := h
    rfl
  · rintro A outer s H vs Q E hr ⟨t, ow, ds, i, rfl, tr, hi, hf, q⟩
    obtain ⟨dx, o, d, n, fs, e1, l1, l2, l3, nl, e2, e3, lf⟩ := tr.ex
    refine ⟨t, dx, fs, E, _, _, rfl, e1, passes_call (takes_of rfl rfl rfl rfl) (fun _ _ _ _ h => h), (pa_cons (pv 1) pa_nil), (pss_cons (ps_expr (pe_bm PySem.F.plainAttrs_list PySem.F.slot_list_append PySem.F.type_list_append mt_append (pe_fld (pv 0) rfl) (pa_cons (pe_mt m__leaps_through hr (by decide) (pv 0) (pa_cons (pv 1) pa_nil)) pa_nil))) (pss_one (ps_ret (pv 3)))), ?_⟩
    exact ⟨_, rfl, t, ow, ds, i, rfl, tr, hi, hf, q⟩
/-! the doors, with what is no make -/
def spB1 (K : PySem.W.Frag) (CK C : Addr) : Sp := fun vs H Q E => ∃ (t : Addr) (ow ds : List Nat) (v : V) (d : PyData), vs = [.ref t, v] ∧ Tr H t C ow ds ∧ D1 K H v d ∧ wholeD d 0 (ow.length : Nat) = false ∧ ∀ a, H a = none → E (.ref CK) (some a) (upd H a (.xd [("found", v)]))
def spBa (K : PySem.W.Frag) (CK C : Addr) : Sp := fun vs H Q E => ∃ (t : Addr) (ow ds : List Nat) (v u : V) (d : PyData), vs = [.ref t, v, u] ∧ Tr H t C ow ds ∧ D1 K H v d ∧ wholeD d 0 (ow.length : Nat) = false ∧ ∀ a, H a = none → E (.ref CK) (some a) (upd H a (.xd [("found", v)]))
def spBb (K : PySem.W.Frag) (CK C : Addr) : Sp := fun vs H Q E => ∃ (t : Addr) (ow ds : List Nat) (i : Nat) (v : V) (d : PyData), vs = [.ref t, num i, v] ∧ Tr H t C ow ds ∧ i ≤ ow.length ∧ D1 K H v d ∧ wholeD d 0 (ow.length : Nat) = false ∧ ∀ a, H a = none → E (.ref CK) (some a) (upd H a (.xd [("found", v)]))
def spBs (K : PySem.W.Frag) (CN C : Addr) : Sp := fun vs H Q E => ∃ (t : Addr) (ow ds : List Nat) (i : Nat) (v : V) (d : PyData), vs = [.ref t, num i, v] ∧ Tr H t C ow ds ∧ i ≤ ow.length ∧ D1 K H v d ∧ wholeD d 0 (dep ow i : Nat) = false ∧ ∀ a, H a = none → E (.ref CN) (some a) (upd H a (.xd [("found", v)]))
theorem ok_needB (T : Txt K mg) (R : ErrK P K mg CK fK) (TC : TreeC K C) (c_is_whole : C8.Cal P w K mg base 1 "is_whole" (spWhole K) []) (m_many : Met P w K mg base 1 C "many" (spMany C) []) (M : MAt K C "_need_make" "MakeTree._need_make" s_MakeTree__need_make ["self", "make"]) : MetX P w K mg base 2 C "_need_make" (spB1 K CK C) := by
  refine M.metX TC.cl sc_MakeTree__need_make (fun vs H Q E h => ?_) (fun f cdv A outer s H vs Q E hr h => ?_)
  · obtain ⟨t, ow, ds, v, d, rfl, _⟩ := h
    rfl
  · obtain ⟨t, ow, ds, v, d, rfl, tr, hd, bad, q⟩ := h
    obtain ⟨dx, o, de, n, fs, e1, l1, l2, l3, nl, e2, e3, lf⟩ := tr.ex
    refine ⟨_, (pss_one (ps_if (pt_not (pt_val (C8.pe_c c_is_whole hr (by decide) (by rfl) (pa_cons (pv 1) (pa_cons pe_int (pa_cons (pe_op op_sub (pe_mt0 m_many hr (by decide) (pv 0)) pe_int) pa_nil))))))
          (pss_one (ps_raiseE rfl R.e_NoMake R.g_NoMake hr (takes_of rfl rfl rfl rfl) (by exact (pa_cons (pv 1) pa_nil)) (by rfl))) pss_nil)), ?_⟩
    refine ⟨_, rfl, _, rfl, t, dx, fs, rfl, e1, nl _ (by decide), t, ow, ds, rfl, tr, _, _, rfl, rfl, v, d, 0, (ow.length : Nat), ?_, hd, _, rfl, ?_⟩
    · show [v, V.int 0, V.int (((ow.length + 1 : Nat) : Int) - 1)] = _
      rw [show ((ow.length + 1 : Nat) : Int) - 1 = (ow.length : Nat) from by omega]
    rw [bad]
    exact iteT ⟨_, rfl, v, rfl, q⟩
theorem ok_ownB (T : Txt K mg) (TC : TreeC K C) (x_need : MetX P w K mg base 2 C "_need_make" (spB1 K CK C)) (M : MAt K C "own" "MakeTree.own" s_MakeTree_own ["self", "make"]) : MetX P w K mg base 3 C "own" (spB1 K CK C) := by
  refine M.metX TC.cl sc_MakeTree_own (fun vs H Q E h => ?_) (fun f cdv A outer s H vs Q E hr h => ?_)
  · obtain ⟨t, ow, ds, v, d, rfl, _⟩ := h
    rfl
  · obtain ⟨t, ow, ds, v, d, rfl, tr, hd, bad, q⟩ := h
    obtain ⟨dx, o, de, n, fs, e1, l1, l2, l3, nl, e2, e3, lf⟩ := tr.ex
    refine ⟨_, (pss_cons (ps_expr (pe_mtX x_need hr (by decide) (takes_of rfl rfl rfl rfl) (pv 0) (pa_cons (pv 1) pa_nil)))
      (pss_one (ps_ret (pe_ix ix_list (pe_fld (pv 0) rfl) (pv 1) (fun _ _ => rfl))))), ?_⟩
    exact ⟨_, rfl, t, dx, fs, rfl, e1, nl _ (by decide), _, rfl, t, ow, ds, v, d, rfl, tr, hd, bad, q⟩
theorem ok_depthB (T : Txt K mg) (TC : TreeC K C) (x_need : MetX P w K mg base 2 C "_need_make" (spB1 K CK C)) (M : MAt K C "depth" "MakeTree.depth" s_MakeTree_depth ["self", "make"]) : MetX P w K mg base 3 C "depth" (spB1 K CK C) := by
  refine M.metX TC.cl sc_MakeTree_depth (fun vs H Q E h => ?_) (fun f cdv A outer s H vs Q E hr h => ?_)
  · obtain ⟨t, ow, ds, v, d, rfl, _⟩ := h
    rfl
  · obtain ⟨t, ow, ds, v, d, rfl, tr, hd, bad, q⟩ := h
    obtain ⟨dx, o, de, n, fs, e1, l1, l2, l3, nl, e2, e3, lf⟩ := tr.ex
    refine ⟨_, (pss_cons (ps_expr (pe_mtX x_need hr (by decide) (takes_of rfl rfl rfl rfl) (pv 0) (pa_cons (pv 1) pa_nil)))
      (pss_one (ps_ret (pe_ix ix_list (pe_fld (pv 0) rfl) (pv 1) (fun _ _ => rfl))))), ?_⟩
    exact ⟨_, rfl, t, dx, fs, rfl, e1, nl _ (by decide), _, rfl, t, ow, ds, v, d, rfl, tr, hd, bad, q⟩
theorem ok_onB (T : Txt K mg) (TC : TreeC K C) (x_need : MetX P w K mg base 2 C "_need_make" (spB1 K CK C)) (M : MAt K C "on" "MakeTree.on" s_MakeTree_on ["self", "make"]) : MetX P w K mg base 3 C "on" (spB1 K CK C) := by
  refine M.metX TC.cl sc_MakeTree_on (fun vs H Q E h => ?_) (fun f cdv A outer s H vs Q E hr h => ?_)
  · obtain ⟨t, ow, ds, v, d, rfl, _⟩ := h
    rfl
  · obtain ⟨t, ow, ds, v, d, rfl, tr, hd, bad, q⟩ := h
    obtain ⟨dx, o, de, n, fs, e1, l1, l2, l3, nl, e2, e3, lf⟩ := tr.ex
    refine ⟨_, (pss_cons (ps_expr (pe_mtX x_need hr (by decide) (takes_of rfl rfl rfl rfl) (pv 0) (pa_cons (pv 1) pa_nil)))
      (pss_one (ps_ret (pe_callTy call_list_of (by rfl) T.t_list boot_list_ (pa_cons (pe_ix ix_list (pe_fld (pv 0) rfl) (pv 1) (fun _ _ => rfl)) pa_nil))))), ?_⟩
    exact ⟨_, rfl, t, dx, fs, rfl, e1, nl _ (by decide), _, rfl, t, ow, ds, v, d, rfl, tr, hd, bad, q⟩
theorem ok_lineB (T : Txt K mg) (TC : TreeC K C) (x_need : MetX P w K mg base 2 C "_need_make" (spB1 K CK C)) (M : MAt K C "line" "MakeTree.line" s_MakeTree_line ["self", "make"]) : MetX P w K mg base 3 C "line" (spB1 K CK C) := by
  refine M.metX TC.cl sc_MakeTree_line (fun vs H Q E h => ?_) (fun f cdv A outer s H vs Q E hr h => ?_)
  · obtain ⟨t, ow, ds, v, d, rfl, _⟩ := h
    rfl
  · obtain ⟨t, ow, ds, v, d, rfl, tr, hd, bad, q⟩ := h
    obtain ⟨dx, o, de, n, fs, e1, l1, l2, l3, nl, e2, e3, lf⟩ := tr.ex
    refine ⟨_, (pss_cons (ps_expr (pe_mtX x_need hr (by decide) (takes_of rfl rfl rfl rfl) (pv 0) (pa_cons (pv 1) pa_nil)))
      (pss_cons (ps_set (i := 2) sc_MakeTree_line.nd rfl (Or.inl rfl) (pe_lst (pa_cons (pv 1) pa_nil)))
      (pss_cons (ps_while (passes_of rfl) (pt_cmpR op_notN (pe_ix ix_list (pe_fld (pv 0) rfl) (pe_ix ix_list (pv 2) (pe_un un_neg pe_int) (fun _ _ => rfl)) (fun _ _ => rfl)) pe_non (nomark _))
          (pss_one (ps_expr (pe_bm PySem.F.plainAttrs_list PySem.F.slot_list_append PySem.F.type_list_append mt_append (pv 2) (pa_cons (pe_ix ix_list (pe_fld (pv 0) rfl) (pe_ix ix_list (pv 2) (pe_un un_neg pe_int) (fun _ _ => rfl)) (fun _ _ => rfl)) pa_nil)))))
      (pss_one (ps_ret (pe_revL (pv 2))))))), ?_⟩
    exact ⟨_, rfl, t, dx, fs, rfl, e1, nl _ (by decide), _, rfl, t, ow, ds, v, d, rfl, tr, hd, bad, q⟩
theorem ok_leapsB (T : Txt K mg) (TC : TreeC K C) (x_need : MetX P w K mg base 2 C "_need_make" (spB1 K CK C)) (M : MAt K C "leaps" "LeapTree.leaps" s_LeapTree_leaps ["self", "make"]) : MetX P w K mg base 3 C "leaps" (spB1 K CK C) := by
  refine M.metX TC.cl sc_LeapTree_leaps (fun vs H Q E h => ?_) (fun f cdv A outer s H vs Q E hr h => ?_)
  · obtain ⟨t, ow, ds, v, d, rfl, _⟩ := h
    rfl
  · obtain ⟨t, ow, ds, v, d, rfl, tr, hd, bad, q⟩ := h
    obtain ⟨dx, o, de, n, fs, e1, l1, l2, l3, nl, e2, e3, lf⟩ := tr.ex
    refine ⟨_, (pss_cons (ps_expr (pe_mtX x_need hr (by decide) (takes_of rfl rfl rfl rfl) (pv 0) (pa_cons (pv 1) pa_nil)))
      (pss_one (ps_ret (pe_callTy call_list_of (by rfl) T.t_list boot_list_ (pa_cons (pe_ix ix_list (pe_fld (pv 0) rfl) (pv 1) (fun _ _ => rfl)) pa_nil))))), ?_⟩
    exact ⟨_, rfl, t, dx, fs, rfl, e1, nl _ (by decide), _, rfl, t, ow, ds, v, d, rfl, tr, hd, bad, q⟩
theorem ok_upB (T : Txt K mg) (TC : TreeC K C) (x_need : MetX P w K mg base 2 C "_need_make" (spB1 K CK C)) (x_steps : MetX P w K mg base 2 C "_need_steps" (spSteps K CN C)) (m_line : Met P w K mg base 3 C "line" (spLine C) []) (M : MAt K C "up" "MakeTree.up" s_MakeTree_up ["self", "make", "steps"]) : MetX P w K mg base 4 C "up" (spBa K CK C) := by
  refine M.metX TC.cl sc_MakeTree_up (fun vs H Q E h => ?_) (fun f cdv A outer s H vs Q E hr h => ?_)
  · obtain ⟨t, ow, ds, v, u, d, rfl, _⟩ := h
    rfl
  · obtain ⟨t, ow, ds, v, u, d, rfl, tr, hd, bad, q⟩ := h
    obtain ⟨dx, o, de, n, fs, e1, l1, l2, l3, nl, e2, e3, lf⟩ := tr.ex
    refine ⟨_, (pss_cons (ps_expr (pe_mtX x_need hr (by decide) (takes_of rfl rfl rfl rfl) (pv 0) (pa_cons (pv 1) pa_nil)))
      (pss_cons (ps_expr (pe_mtX x_steps hr (by decide) (takes_of rfl rfl rfl rfl) (pv 0) (pa_cons (pv 1) (pa_cons (pv 2) pa_nil))))
      (pss_one (ps_ret (pe_ix ix_list (pe_mt m_line hr (by decide) (pv 0) (pa_cons (pv 1) pa_nil)) (pe_op op_sub (pe_ix ix_list (pe_fld (pv 0) rfl) (pv 1) (fun _ _ => rfl)) (pv 2)) (fun _ _ => rfl)))))), ?_⟩
    exact ⟨_, rfl, t, dx, fs, rfl, e1, nl _ (by decide), _, rfl, t, ow, ds, v, d, rfl, tr, hd, bad, q⟩
theorem ok_nearB (T : Txt K mg) (TC : TreeC K C) (x_need : MetX P w K mg base 2 C "_need_make" (spB1 K CK C)) (m__need_make : Met P w K mg base 2 C "_need_make" (spNeed C) []) (M : MAt K C "nearest" "MakeTree.nearest" s_MakeTree_nearest ["self", "one", "other"]) : MetX P w K mg base 3 C "nearest" (spBa K CK C) := by
  refine M.metX TC.cl sc_MakeTree_nearest (fun vs H Q E h => ?_) (fun f cdv A outer s H vs Q E hr h => ?_)
  · obtain ⟨t, ow, ds, v, u, d, rfl, _⟩ := h
    rfl
  · obtain ⟨t, ow, ds, v, u, d, rfl, tr, hd, bad, q⟩ := h
    obtain ⟨dx, o, de, n, fs, e1, l1, l2, l3, nl, e2, e3, lf⟩ := tr.ex
    refine ⟨_, (pss_cons (ps_expr (pe_mtX x_need hr (by decide) (takes_of rfl rfl rfl rfl) (pv 0) (pa_cons (pv 1) pa_nil)))
      (pss_cons (ps_expr (pe_mt m__need_make hr (by decide) (pv 0) (pa_cons (pv 2) pa_nil)))
      (pss_cons (ps_while (passes_of rfl) (pt_cmpR op_ne (pv 1) (pv 2) (nomark _))
          (pss_one (ps_if (pt_cmpR op_gt (pv 1) (pv 2) (nomark _))
              (pss_one (ps_set (i := 1) sc_MakeTree_nearest.nd rfl (Or.inl rfl) (pe_ix ix_list (pe_fld (pv 0) rfl) (pv 1) (fun _ _ => rfl)))) 
              (pss_one (ps_set (i := 2) sc_MakeTree_nearest.nd rfl (Or.inl rfl) (pe_ix ix_list (pe_fld (pv 0) rfl) (pv 2) (fun _ _ => rfl)))))))
      (pss_one (ps_ret (pv 1)))))), ?_⟩
    exact ⟨_, rfl, t, dx, fs, rfl, e1, nl _ (by decide), _, rfl, t, ow, ds, v, d, rfl, tr, hd, bad, q⟩
theorem ok_near2 (T : Txt K mg) (TC : TreeC K C) (x_need : MetX P w K mg base 2 C "_need_make" (spB1 K CK C)) (m__need_make : Met P w K mg base 2 C "_need_make" (spNeed C) []) (M : MAt K C "nearest" "MakeTree.nearest" s_MakeTree_nearest ["self", "one", "other"]) : MetX P w K mg base 3 C "nearest" (spBb K CK C) := by
  refine M.metX TC.cl sc_MakeTree_nearest (fun vs H Q E h => ?_) (fun f cdv A outer s H vs Q E hr h => ?_)
  · obtain ⟨t, ow, ds, i, v, d, rfl, _⟩ := h
    rfl
  · obtain ⟨t, ow, ds, i, v, d, rfl, tr, hi, hd, bad, q⟩ := h
    obtain ⟨dx, o, de, n, fs, e1, l1, l2, l3, nl, e2, e3, lf⟩ := tr.ex
    refine ⟨_, (pss_cons (ps_expr (pe_mt m__need_make hr (by decide) (pv 0) (pa_cons (pv 1) pa_nil)))
      (pss_cons (ps_expr (pe_mtX x_need hr (by decide) (takes_of rfl rfl rfl rfl) (pv 0) (pa_cons (pv 2) pa_nil)))
      (pss_cons (ps_while (passes_of rfl) (pt_cmpR op_ne (pv 1) (pv 2) (nomark _))
          (pss_one (ps_if (pt_cmpR op_gt (pv 1) (pv 2) (nomark _))
              (pss_one (ps_set (i := 1) sc_MakeTree_nearest.nd rfl (Or.inl rfl) (pe_ix ix_list (pe_fld (pv 0) rfl) (pv 1) (fun _ _ => rfl)))) 
              (pss_one (ps_set (i := 2) sc_MakeTree_nearest.nd rfl (Or.inl rfl) (pe_ix ix_list (pe_fld (pv 0) rfl) (pv 2) (fun _ _ => rfl)))))))
      (pss_one (ps_ret (pv 1)))))), ?_⟩
    exact ⟨_, rfl, t, dx, fs, rfl, e1, nl _ (by decide), _, rfl, t, ow, ds, i, rfl, tr, hi, _, rfl, t, dx, fs, rfl, e1, nl _ (by decide), _, rfl, t, ow, ds, v, d, rfl, tr, hd, bad, q⟩
theorem ok_upS (T : Txt K mg) (TC : TreeC K C) (m__need_make : Met P w K mg base 2 C "_need_make" (spNeed C) []) (x_steps : MetX P w K mg base 2 C "_need_steps" (spSteps K CN C)) (m_line : Met P w K mg base 3 C "line" (spLine C) []) (M : MAt K C "up" "MakeTree.up" s_MakeTree_up ["self", "make", "steps"]) : MetX P w K mg base 4 C "up" (spBs K CN C) := by
  refine M.metX TC.cl sc_MakeTree_up (fun vs H Q E h => ?_) (fun f cdv A outer s H vs Q E hr h => ?_)
  · obtain ⟨t, ow, ds, i, v, d, rfl, _⟩ := h
    rfl
  · obtain ⟨t, ow, ds, i, v, d, rfl, tr, hi, hd, bad, q⟩ := h
    obtain ⟨dx, o, de, n, fs, e1, l1, l2, l3, nl, e2, e3, lf⟩ := tr.ex
    refine ⟨_, (pss_cons (ps_expr (pe_mt m__need_make hr (by decide) (pv 0) (pa_cons (pv 1) pa_nil)))
      (pss_cons (ps_expr (pe_mtX x_steps hr (by decide) (takes_of rfl rfl rfl rfl) (pv 0) (pa_cons (pv 1) (pa_cons (pv 2) pa_nil))))
      (pss_one (ps_ret (pe_ix ix_list (pe_mt m_line hr (by decide) (pv 0) (pa_cons (pv 1) pa_nil)) (pe_op op_sub (pe_ix ix_list (pe_fld (pv 0) rfl) (pv 1) (fun _ _ => rfl)) (pv 2)) (fun _ _ => rfl)))))), ?_⟩
    exact ⟨_, rfl, t, dx, fs, rfl, e1, nl _ (by decide), _, rfl, t, ow, ds, i, rfl, tr, hi, _, rfl, t, dx, fs, rfl, e1, nl _ (by decide), _, rfl, _, rfl, t, ow, ds, i, v, d, rfl, tr, hi, hd, (fun z => by rw [bad] at z; cases z), fun _ => q⟩
theorem ok_lwB (T : Txt K mg) (TC : TreeC K C) (x_need : MetX P w K mg base 2 C "_need_make" (spB1 K CK C)) (x_steps : MetX P w K mg base 2 C "_need_steps" (spSteps K CN C)) (M : MAt K C "leap_way" "LeapTree.leap_way" s_LeapTree_leap_way ["self", "make", "steps"]) : MetX P w K mg base 3 C "leap_way" (spBa K CK C) := by
  refine M.metX TC.cl sc_LeapTree_leap_way (fun vs H Q E h => ?_) (fun f cdv A outer s H vs Q E hr h => ?_)
  · obtain ⟨t, ow, ds, v, u, d, rfl, _⟩ := h
    rfl
  · obtain ⟨t, ow, ds, v, u, d, rfl, tr, hd, bad, q⟩ := h
    obtain ⟨dx, o, de, n, fs, e1, l1, l2, l3, nl, e2, e3, lf⟩ := tr.ex
    refine ⟨_, (pss_cons (ps_expr (pe_mtX x_need hr (by decide) (takes_of rfl rfl rfl rfl) (pv 0) (pa_cons (pv 1) pa_nil)))
      (pss_cons (ps_expr (pe_mtX x_steps hr (by decide) (takes_of rfl rfl rfl rfl) (pv 0) (pa_cons (pv 1) (pa_cons (pv 2) pa_nil))))
      (pss_cons (ps_set (i := 3) sc_LeapTree_leap_way.nd rfl (Or.inl rfl) (pe_lst pa_nil))
      (pss_cons (ps_set (i := 4) sc_LeapTree_leap_way.nd rfl (Or.inl rfl) (pv 1))
      (pss_cons (ps_for (passes_of rfl) rfl (pi_revR (by rfl) T.b_reversed (prg_1 (by rfl) T.b_range (pe_bits (pv 2)))) (pg_name (i := 5) sc_LeapTree_leap_way.nd rfl (Or.inl rfl))
          (pss_one (ps_if (pt_truth (pe_op op_and (pv 2) (pe_op op_oneShl pe_int (pv 5))) (by intro _; rfl))
              (pss_cons (ps_set (i := 4) sc_LeapTree_leap_way.nd rfl (Or.inl rfl) (pe_ix ix_list (pe_ix ix_list (pe_fld (pv 0) rfl) (pv 4) (fun _ _ => rfl)) (pv 5) (fun _ _ => rfl)))
              (pss_one (ps_expr (pe_bm PySem.F.plainAttrs_list PySem.F.slot_list_append PySem.F.type_list_append mt_append (pv 3) (pa_cons (pv 4) pa_nil))))) pss_nil)))
      (pss_one (ps_ret (pv 3)))))))), ?_⟩
    exact ⟨_, rfl, t, dx, fs, rfl, e1, nl _ (by decide), _, rfl, t, ow, ds, v, d, rfl, tr, hd, bad, q⟩
theorem ok_lwS (T : Txt K mg) (TC : TreeC K C) (m__need_make : Met P w K mg base 2 C "_need_make" (spNeed C) []) (x_steps : MetX P w K mg base 2 C "_need_steps" (spSteps K CN C)) (M : MAt K C "leap_way" "LeapTree.leap_way" s_LeapTree_leap_way ["self", "make", "steps"]) : MetX P w K mg base 3 C "leap_way" (spBs K CN C) := by
  refine M.metX TC.cl sc_LeapTree_leap_way (fun vs H Q E h => ?_) (fun f cdv A outer s H vs Q E hr h => ?_)
  · obtain ⟨t, ow, ds, i, v, d, rfl, _⟩ := h
    rfl
  · obtain ⟨t, ow, ds, i, v, d, rfl, tr, hi, hd, bad, q⟩ := h
    obtain ⟨dx, o, de, n, fs, e1, l1, l2, l3, nl, e2, e3, lf⟩ := tr.ex
    refine ⟨_, (pss_cons (ps_expr (pe_mt m__need_make hr (by decide) (pv 0) (pa_cons (pv 1) pa_nil)))
      (pss_cons (ps_expr (pe_mtX x_steps hr (by decide) (takes_of rfl rfl rfl rfl) (pv 0) (pa_cons (pv 1) (pa_cons (pv 2) pa_nil))))
      (pss_cons (ps_set (i := 3) sc_LeapTree_leap_way.nd rfl (Or.inl rfl) (pe_lst pa_nil))
      (pss_cons (ps_set (i := 4) sc_LeapTree_leap_way.nd rfl (Or.inl rfl) (pv 1))
      (pss_cons (ps_for (passes_of rfl) rfl (pi_revR (by rfl) T.b_reversed (prg_1 (by rfl) T.b_range (pe_bits (pv 2)))) (pg_name (i := 5) sc_LeapTree_leap_way.nd rfl (Or.inl rfl))
          (pss_one (ps_if (pt_truth (pe_op op_and (pv 2) (pe_op op_oneShl pe_int (pv 5))) (by intro _; rfl))
              (pss_cons (ps_set (i := 4) sc_LeapTree_leap_way.nd rfl (Or.inl rfl) (pe_ix ix_list (pe_ix ix_list (pe_fld (pv 0) rfl) (pv 4) (fun _ _ => rfl)) (pv 5) (fun _ _ => rfl)))
              (pss_one (ps_expr (pe_bm PySem.F.plainAttrs_list PySem.F.slot_list_append PySem.F.type_list_append mt_append (pv 3) (pa_cons (pv 4) pa_nil))))) pss_nil)))
      (pss_one (ps_ret (pv 3)))))))), ?_⟩
    exact ⟨_, rfl, t, dx, fs, rfl, e1, nl _ (by decide), _, rfl, t, ow, ds, i, rfl, tr, hi, _, rfl, t, dx, fs, rfl, e1, nl _ (by decide), _, rfl, _, rfl, t, ow, ds, i, v, d, rfl, tr, hi, hd, (fun z => by rw [bad] at z; cases z), fun _ => q⟩
theorem ok_wayB (T : Txt K mg) (TC : TreeC K C) (x_near : MetX P w K mg base 3 C "nearest" (spBa K CK C)) (m_line : Met P w K mg base 3 C "line" (spLine C) []) (M : MAt K C "way" "MakeTree.way" s_MakeTree_way ["self", "one", "other"]) : MetX P w K mg base 4 C "way" (spBa K CK C) := by
  refine M.metX TC.cl sc_MakeTree_way (fun vs H Q E h => ?_) (fun f cdv A outer s H vs Q E hr h => ?_)
  · obtain ⟨t, ow, ds, v, u, d, rfl, _⟩ := h
    rfl
  · obtain ⟨t, ow, ds, v, u, d, rfl, tr, hd, bad, q⟩ := h
    obtain ⟨dx, o, de, n, fs, e1, l1, l2, l3, nl, e2, e3, lf⟩ := tr.ex
    refine ⟨_, (pss_cons (ps_set (i := 3) sc_MakeTree_way.nd rfl (Or.inl rfl) (pe_ix ix_list (pe_fld (pv 0) rfl) (pe_mtX x_near hr (by decide) (takes_of rfl rfl rfl rfl) (pv 0) (pa_cons (pv 1) (pa_cons (pv 2) pa_nil))) (fun _ _ => rfl)))
      (pss_cons (ps_set (i := 4) sc_MakeTree_way.nd rfl (Or.inl rfl) (pe_slice sl_list (pe_mt m_line hr (by decide) (pv 0) (pa_cons (pv 1) pa_nil)) (po_some (pv 3)) po_none))
      (pss_cons (ps_set (i := 5) sc_MakeTree_way.nd rfl (Or.inl rfl) (pe_slice sl_list (pe_mt m_line hr (by decide) (pv 0) (pa_cons (pv 2) pa_nil)) (po_some (pe_op op_add (pv 3) pe_int)) po_none))
      (pss_one (ps_ret (pe_op op_cat (pe_revL (pv 4)) (pv 5))))))), ?_⟩
    exact ⟨_, rfl, t, C, dx, fs, .ref de, rfl, e1, TC.cl, TC.n_depths, l2, _, rfl, t, dx, fs, rfl, e1, nl _ (by decide), _, rfl, _, rfl, t, ow, ds, v, u, d, rfl, tr, hd, bad, q⟩
theorem ok_way2 (T : Txt K mg) (TC : TreeC K C) (x_near : MetX P w K mg base 3 C "nearest" (spBb K CK C)) (m_line : Met P w K mg base 3 C "line" (spLine C) []) (M : MAt K C "way" "MakeTree.way" s_MakeTree_way ["self", "one", "other"]) : MetX P w K mg base 4 C "way" (spBb K CK C) := by
  refine M.metX TC.cl sc_MakeTree_way (fun vs H Q E h => ?_) (fun f cdv A outer s H vs Q E hr h => ?_)
  · obtain ⟨t, ow, ds, i, v, d, rfl, _⟩ := h
    rfl
  · obtain ⟨t, ow, ds, i, v, d, rfl, tr, hi, hd, bad, q⟩ := h
    obtain ⟨dx, o, de, n, fs, e1, l1, l2, l3, nl, e2, e3, lf⟩ := tr.ex
    refine ⟨_, (pss_cons (ps_set (i := 3) sc_MakeTree_way.nd rfl (Or.inl rfl) (pe_ix ix_list (pe_fld (pv 0) rfl) (pe_mtX x_near hr (by decide) (takes_of rfl rfl rfl rfl) (pv 0) (pa_cons (pv 1) (pa_cons (pv 2) pa_nil))) (fun _ _ => rfl)))
      (pss_cons (ps_set (i := 4) sc_MakeTree_way.nd rfl (Or.inl rfl) (pe_slice sl_list (pe_mt m_line hr (by decide) (pv 0) (pa_cons (pv 1) pa_nil)) (po_some (pv 3)) po_none))
      (pss_cons (ps_set (i := 5) sc_MakeTree_way.nd rfl (Or.inl rfl) (pe_slice sl_list (pe_mt m_line hr (by decide) (pv 0) (pa_cons (pv 2) pa_nil)) (po_some (pe_op op_add (pv 3) pe_int)) po_none))
      (pss_one (ps_ret (pe_op op_cat (pe_revL (pv 4)) (pv 5))))))), ?_⟩
    exact ⟨_, rfl, t, C, dx, fs, .ref de, rfl, e1, TC.cl, TC.n_depths, l2, _, rfl, t, dx, fs, rfl, e1, nl _ (by decide), _, rfl, _, rfl, t, ow, ds, i, v, d, rfl, tr, hi, hd, bad, q⟩
theorem ok_apartB (T : Txt K mg) (TC : TreeC K C) (x_way : MetX P w K mg base 4 C "way" (spBa K CK C)) (M : MAt K C "apart" "MakeTree.apart" s_MakeTree_apart ["self", "one", "other"]) : MetX P w K mg base 5 C "apart" (spBa K CK C) := by
  refine M.metX TC.cl sc_MakeTree_apart (fun vs H Q E h => ?_) (fun f cdv A outer s H vs Q E hr h => ?_)
  · obtain ⟨t, ow, ds, v, u, d, rfl, _⟩ := h
    rfl
  · obtain ⟨t, ow, ds, v, u, d, rfl, tr, hd, bad, q⟩ := h
    obtain ⟨dx, o, de, n, fs, e1, l1, l2, l3, nl, e2, e3, lf⟩ := tr.ex
    refine ⟨_, (pss_one (ps_ret (pe_op op_sub (pe_callB call_len (by rfl) T.b_len boot_len_ (pa_cons (pe_mtX x_way hr (by decide) (takes_of rfl rfl rfl rfl) (pv 0) (pa_cons (pv 1) (pa_cons (pv 2) pa_nil))) pa_nil)) pe_int))), ?_⟩
    exact ⟨_, rfl, t, dx, fs, rfl, e1, nl _ (by decide), _, rfl, _, rfl, t, ow, ds, v, u, d, rfl, tr, hd, bad, q⟩
theorem ok_apart2 (T : Txt K mg) (TC : TreeC K C) (x_way : MetX P w K mg base 4 C "way" (spBb K CK C)) (M : MAt K C "apart" "MakeTree.apart" s_MakeTree_apart ["self", "one", "other"]) : MetX P w K mg base 5 C "apart" (spBb K CK C) := by
  refine M.metX TC.cl sc_MakeTree_apart (fun vs H Q E h => ?_) (fun f cdv A outer s H vs Q E hr h => ?_)
  · obtain ⟨t, ow, ds, i, v, d, rfl, _⟩ := h
    rfl
  · obtain ⟨t, ow, ds, i, v, d, rfl, tr, hi, hd, bad, q⟩ := h
    obtain ⟨dx, o, de, n, fs, e1, l1, l2, l3, nl, e2, e3, lf⟩ := tr.ex
    refine ⟨_, (pss_one (ps_ret (pe_op op_sub (pe_callB call_len (by rfl) T.b_len boot_len_ (pa_cons (pe_mtX x_way hr (by decide) (takes_of rfl rfl rfl rfl) (pv 0) (pa_cons (pv 1) (pa_cons (pv 2) pa_nil))) pa_nil)) pe_int))), ?_⟩
    exact ⟨_, rfl, t, dx, fs, rfl, e1, nl _ (by decide), _, rfl, _, rfl, t, ow, ds, i, v, d, rfl, tr, hi, hd, bad, q⟩
theorem fn_growB {f : Addr} {fd : FuncData} (T : Txt K mg) (R : ErrT P K mg CT fT) (TC : TreeC K C) (m_many : Met P w K mg base 1 C "many" (spMany C) []) (x_need : MetX P w K mg base 2 C "_need_make" (spB1 K CK C)) (F : Fun K "grow" "MakeTree.grow" s_MakeTree_grow f fd) :
    FnOk P w K mg base (L2.CX P w) 3 f fd ["self", "make"] (spB1 K CK C) := by
  refine F.okX sc_MakeTree_grow (fun vs H Q E h => ?_) (fun cdv A outer s H vs Q E hr h => ?_)
  · obtain ⟨t, ow, ds, v, d0, rfl, _⟩ := h
    rfl
  · obtain ⟨t, ow, ds, v, d0, rfl, tr, hd, bad, q⟩ := h
    obtain ⟨dx, o, d, n, fs, e1, l1, l2, l3, nl, e2, e3, lf⟩ := tr.ex
    refine ⟨_, (pss_cons (ps_expr (pe_mtX x_need hr (by decide) (takes_of rfl rfl rfl rfl) (pv 0) (pa_cons (pv 1) pa_nil)))
      (pss_cons (ps_set (i := 2) sc_MakeTree_grow.nd rfl (Or.inl rfl) (pe_mt0 m_many hr (by decide) (pv 0)))
      (pss_cons (ps_if (pt_cmpR op_ge (pv 2) (pe_gi rfl T.g_MOST_MAKES) (nomark _))
          (pss_one (Gc.ps_raiseE rfl R.e_TooMany R.g_TooMany hr (takes_of rfl rfl rfl rfl) (by exact (pa_cons (pe_op op_add (pv 2) pe_int) pa_nil)) (by rfl))) pss_nil)
      (pss_cons (ps_expr (pe_bm PySem.F.plainAttrs_list PySem.F.slot_list_append PySem.F.type_list_append mt_append (pe_fld (pv 0) rfl) (pa_cons (pv 1) pa_nil)))
      (pss_cons (ps_expr (pe_bm PySem.F.plainAttrs_list PySem.F.slot_list_append PySem.F.type_list_append mt_append (pe_fld (pv 0) rfl) (pa_cons (pe_op op_add (pe_ix ix_list (pe_fld (pv 0) rfl) (pv 1) (fun _ _ => rfl)) pe_int) pa_nil)))
      (pss_cons (ps_expr (pe_bm PySem.F.plainAttrs_list PySem.F.slot_list_append PySem.F.type_list_append mt_append (pe_fld (pv 0) rfl) (pa_cons (pe_lst pa_nil) pa_nil)))
      (pss_cons (ps_expr (pe_bm PySem.F.plainAttrs_list PySem.F.slot_list_append PySem.F.type_list_append mt_append (pe_ix ix_list (pe_fld (pv 0) rfl) (pv 1) (fun _ _ => rfl)) (pa_cons (pv 2) pa_nil)))
      (pss_one (ps_ret (pv 2)))))))))), ?_⟩
    exact ⟨_, rfl, t, dx, fs, rfl, e1, nl _ (by decide), _, rfl, t, ow, ds, v, d0, rfl, tr, hd, bad, q⟩
theorem ok_growB (T : Txt K mg) (R : ErrT P K mg CT fT) (TC : TreeC K C) (m_many : Met P w K mg base 1 C "many" (spMany C) []) (x_need : MetX P w K mg base 2 C "_need_make" (spB1 K CK C)) (M : MAt K C "grow" "MakeTree.grow" s_MakeTree_grow ["self", "make"]) :
    MetX P w K mg base 4 C "grow" (spB1 K CK C) := by
  obtain ⟨f, fd, F, me, b⟩ := M.ex
  exact ⟨f, fd, _, TC.cl, me, (fn_growB T R TC m_many x_need F).mono (by decide), b⟩
theorem okL_growB {g : Addr} {fd : FuncData} (T : Txt K mg) (R : ErrT P K mg CT fT) (TC : TreeC K C) (m_many : Met P w K mg base 1 C "many" (spMany C) []) (x_need : MetX P w K mg base 2 C "_need_make" (spB1 K CK C)) (m__leaps_through : Met P w K mg base 1 C "_leaps_through" (spThrough C) [])
    (F : Fun K "grow" "MakeTree.grow" s_MakeTree_grow g fd) (hb : Binds K fd ["self", "make"] []) (S : SAt P K C "grow" "LeapTree.grow" s_LeapTree_grow ["self", "make"] g) :
    MetX P w K mg base 4 C "grow" (spB1 K CK C) := by
  obtain ⟨f, cc, c, oc, od, doc, pm, an, ct, osl, sup, lk, me, bi⟩ := S.ex
  refine ⟨f, _, _, TC.cl, me, ?_, bi⟩
  refine okS_set (i := 3) sup lk ns_grow rfl (fun vs H Q E h => ?_) rfl rfl rfl (fn_growB T R TC m_many x_need F) hb (by rfl) (fun L => by rfl) (fun L => by rfl) (fun L => by rfl) (fun L => by rfl) ?_
  · obtain ⟨t, ow, ds, v, d0, rfl, _⟩ := h
    rfl
  · rintro A outer s H vs Q E hr ⟨t, ow, ds, v, d0, rfl, tr, hd, bad, q⟩
    obtain ⟨dx, o, d, n, fs, e1, l1, l2, l3, nl, e2, e3, lf⟩ := tr.ex
    refine ⟨t, dx, fs, E, _, _, rfl, e1, passes_call (takes_of rfl rfl rfl rfl) (fun _ _ _ _ h => h), (pa_cons (pv 1) pa_nil), (pss_cons (ps_expr (pe_bm PySem.F.plainAttrs_list PySem.F.slot_list_append PySem.F.type_list_append mt_append (pe_fld (pv 0) rfl) (pa_cons (pe_mt m__leaps_through hr (by decide) (pv 0) (pa_cons (pv 1) pa_nil)) pa_nil))) (pss_one (ps_ret (pv 3)))), ?_⟩
    exact ⟨_, rfl, t, ow, ds, v, d0, rfl, tr, hd, bad, q⟩
end
end K10
/-! Several except clauses, each with a name of its own or none. -/
namespace Gt
open PySem PySem.Spec PyProof.Rows L2
/-- an exception that came down to the clauses -/
structure Caught (X : Cx) (pins : List (Addr × Obj)) (σ : L2.St) (H : Hp) (a : Addr) (cls : Value) (d : Option Addr) (B : Heap) (s : Shared) : Prop where
  fly : HandSPX.FlyingZ B (X.env :: X.outer) a (Zc cls d) s.heap
  inv : Inv X pins σ H s
  na : H a = none
  low : a ≠ X.env.locals
  free : a ∉ X.fs
  again : ∀ h', HandSPX.FlyingZ B (X.env :: X.outer) a (Zc cls d) h' → s.heap.UpToSlots h' → Inv X pins σ H { s with heap := h' }
  off : ∀ (h' : Heap) (W : WX), HandSPX.HeldZ B (X.env :: X.outer) a (Zc cls d) X.env.locals h' → s.heap.UpToSlots h' → W cls d σ H → XE X W (.ref a) { s with heap := h' }
theorem not_frame {X : Cx} {B : Heap} {a : Addr} {cls : Value} {d : Option Addr} {h : Heap} (fl : HandSPX.FlyingZ B (X.env :: X.outer) a (Zc cls d) h) : a ∉ frs (X.env :: X.outer) := fun hm => by
  have ff := fl.2.2.1
  obtain ⟨oe, vs, e1, _, e2⟩ := fl.there
  obtain ⟨_, o2, e3, no⟩ := ff.mem hm
  cases e1.symm.trans e3
  exact no _ e2
theorem air {X : Cx} {pins : List (Addr × Obj)} {W : WX} {xe : Value → Shared → Prop} {u : Value} {s' : Shared} {R : Shared → Prop} (ok : X.Ok) (hs : X.stack = X.env :: X.outer) (hf : X.env.frame = some X.env.locals)
    (xx : XE (X.tr (X.pn ++ pins) xe) W u s') (k : ∀ (a : Addr) (cls : Value) (d : Option Addr) (σ : L2.St) (H : Hp) (B : Heap) (s3 : Shared), u = .ref a → Caught X pins σ H a cls d B s3 → W cls d σ H → R s3) :
    wpAny (model X.prog X.w) X.A (noteFrame u X.env) (fun _ s2 => wpAny (model X.prog X.w) X.A (setFlight u none) (fun _ s3 => R s3) X.xe s2) X.xe s' := by
  obtain ⟨a, B, sI, p', σ, H, cls, d, rfl, J, nb, up, sky, na, os, ag, wish⟩ := xx
  have I0 := J.ofTry ok
  have fr : X.A.frames = some (X.env :: X.outer) := hs ▸ ok.frames
  have y : Sky B (X.env :: X.outer) a (Zc cls d) X.env.locals s'.heap := hs ▸ sky
  refine Sky.land Zc.steady fr hf y fun h3 fl up3 => k a cls d σ H B _ rfl ?_ wish
  have nf := not_frame (X := X) fl
  have up13 := up.trans up3
  refine ⟨fl, I0.landed nb fl.1 up13 os ag, na, fun e => nf ?_, fun hm => ?_, fun h4 f4 up4 => I0.landed nb f4.1 (up13.trans up4) os ag, fun h4 W' hh up4 w' => ?_⟩
  · exact List.mem_filterMap.mpr ⟨X.env, List.mem_cons_self .., e ▸ hf⟩
  · obtain ⟨v, hv, e⟩ := List.mem_filterMap.mp hm
    exact nf (List.mem_filterMap.mpr ⟨v, List.mem_cons_of_mem _ hv, e⟩)
  · exact ⟨a, B, sI, pins, σ, H, cls, d, rfl, I0, nb, up13.trans up4, .inr (.inr (hs ▸ hh)), na, os, ag, w'⟩
/-- what stands of the ends when the name goes -/
def gone : Option Nat → Ends → Ends
  | none, D => D
  | some i, D => ⟨fun σ => D.nx (σ.set i none), D.rt, fun σ => D.bk (σ.set i none), fun σ => D.ct (σ.set i none)⟩
def held : Option Nat → Addr → L2.St → L2.St
  | none, _, σ => σ
  | some i, a, σ => σ.set i (some (.ref a))
abbrev Cl := Value × Option Nat × (Addr → Value → Option Addr → TS)
/-- what the clauses wish -/
def wCl (K : PySem.W.Frag) (Wout : WX) (D : Ends) : List Cl → WX
  | [] => Wout
  | (c, i, t) :: r => fun cls d σ H => ∃ b, PySem.W.exmOne K cls c = some b ∧ (b = true → ∀ a, H a = none → t a cls d (gone i D) (held i a σ) H) ∧ (b = false → wCl K Wout D r cls d σ H)
abbrev SuiteOk (X : Cx) (sts : List Stmt) (t : Addr → Value → Option Addr → TS) : Prop := ∀ (a : Addr) (oe : Obj) (cls : Value) (d : Option Addr) (pn : List (Addr × Obj)), Zc cls d oe → (∃ vs, oe.data = .fields vs) → PSs (X.suite a ((a, oe) :: pn)) sts (t a cls d)
inductive Clauses (X : Cx) : List ExceptHandler → List Cl → Prop
  | nil : Clauses X [] []
  | bare {x : Str} {c : Value} {t : Addr → Value → Option Addr → TS} {b : Stmt} {su : List Stmt} {p q : Pos} {hds : List ExceptHandler} {l : List Cl} (hc : Names X x c) (hsu : SuiteOk X (b :: su) t) (r : Clauses X hds l) :
      Clauses X (.ExceptHandler (some (.Name x p)) none (b :: su) q :: hds) ((c, none, t) :: l)
  | named {x n : Str} {i : Nat} {c : Value} {t : Addr → Value → Option Addr → TS} {b : Stmt} {su : List Stmt} {p q : Pos} {hds : List ExceptHandler} {l : List Cl} (hc : Names X x c) (hi : X.N[i]? = some n) (hl : X.env.kindOf n = some .local) (hsu : SuiteOk X (b :: su) t) (r : Clauses X hds l) :
      Clauses X (.ExceptHandler (some (.Name x p)) (some n) (b :: su) q :: hds) ((c, some i, t) :: l)
section
variable {X : Cx} {pins : List (Addr × Obj)} {σ : L2.St} {H : Hp} {a : Addr} {cls : Value} {d : Option Addr} {B : Heap} {s : Shared}
/-- the class that a clause asks for -/
theorem Caught.asks (k : Caught X pins σ H a cls d B s) {x : Str} {c : Value} {p : Pos} {b : Bool} (hc : Names X x c) (hb : PySem.W.exmOne X.K cls c = some b) {Q : Bool → Shared → Prop} {E1 E2 : Value → Shared → Prop} (q : Q b s) :
    wpAny (model X.prog X.w) (X.A.mark (some (.ref a))) (eval (.Name x p) X.env) (fun v s1 => wpAny (model X.prog X.w) (X.A.mark (some (.ref a))) (excMatches (.ref a) v) Q E1 s1) E2 s := by
  obtain ⟨oe, vs, e1, z1, e2⟩ := k.fly.there
  have S := k.inv.suite e1 e2 k.na k.low k.free
  have lk : PySem.W.Looks (model X.prog X.w) s.heap (typeOf (.ref a)) cls := fun _ _ _ _ g r => wpAny_typeOf_ref (g _ _ e1) (by rw [z1.1]; exact r)
  have m := PySem.W.exm_one (M := model X.prog X.w) k.inv.kIn lk hb
  have go := m.here (A := X.A.mark (some (.ref a))) (E := E1) q
  obtain ⟨g, nd, y | ⟨y, bt, nn⟩⟩ := hc
  · exact ld_glob (X := X.suite a ((a, oe) :: (X.pn ++ pins))) S g y go nd
  · exact ld_blt (X := X.suite a ((a, oe) :: (X.pn ++ pins))) S g y bt go nn nd
theorem Caught.none_left (k : Caught X pins σ H a cls d B s) (hf : X.env.frame = some X.env.locals) {Wout : WX} (tk : Takes X Wout) (w : Wout cls d σ H) {Q : Flow → Shared → Prop} :
    wpAny (model X.prog X.w) X.A (handleBy (.ref a) X.env []) Q X.xe s := by
  refine wpAny_handleBy_nil ?_
  have fl := k.fly
  obtain ⟨_, _, _, oe, vs, T, oT, ts, h1, _, h2, h3, _⟩ := id fl
  unfold PySem.passOn
  refine wpAny_bind (wpAny_field h1 h2 h3 ?_)
  have nn : ¬ ((Value.ref T == Value.none) = true) := by simp
  rw [if_neg nn]
  have fin : wpAny (model X.prog X.w) X.A (setFlight (.ref a) X.env.frame) (fun _ s1 => wpAny (model X.prog X.w) X.A (throw (.ref a) : Sem Flow) Q X.xe s1) X.xe s := by
    rw [hf]
    exact HandSPX.setFlight_upZ fl fun h' hh up' => wpAny_throw (tk _ _ (k.off h' Wout hh up' w))
  first
    | exact wpAny_bind (wpAny_pure <| wpAny_bind fin)
    | exact wpAny_bind fin
/-- down the clauses -/
theorem Caught.down (k : Caught X pins σ H a cls d B s) (hf : X.env.frame = some X.env.locals) (hN : X.N.Nodup) {Wout : WX} (tk : Takes X Wout) {D : Ends} {hds : List ExceptHandler} {l : List Cl} (hc : Clauses X hds l) :
    wCl X.K Wout D l cls d σ H → wpAny (model X.prog X.w) X.A (handleBy (.ref a) X.env hds) (SP X pins D) X.xe s := by
  have ok := k.inv.ok
  induction hc with
  | nil => exact fun w => k.none_left hf tk w
  | @bare x c t b su p q hds l hc hsu r ih =>
    rintro ⟨v, e, yes, no⟩
    refine wpAny_handleBy_cons (codeAny_handlers_test (k.asks hc e ?_)) (fun z => by cases z)
    cases v with
    | false => exact ih (no rfl)
    | true =>
      refine codeAny_handlers_suite (HandSPX.lands_againZ k.fly fun h4 f4 up4 => ?_)
      obtain ⟨oe, vs, e1, z1, e2⟩ := f4.there
      have S := (k.again h4 f4 up4).suite e1 e2 k.na k.low k.free
      refine wpAny_mono ((hsu a oe cls d (X.pn ++ pins) z1 ⟨_, e2⟩).run [] _ _ H _ S (yes rfl a k.na)) (fun f s6 hsp => ?_) (fun _ _ z => z.elim)
      cases f <;> first
        | exact (let ⟨_, _, S6, q6⟩ := hsp; ⟨_, _, S6.unsuite ok, q6⟩)
        | exact (let ⟨_, _, _, S6, r6, q6⟩ := hsp; ⟨_, _, _, S6.unsuite ok, r6, q6⟩)
  | @named x n i c t b su p q hds l hc hi hl hsu r ih =>
    rintro ⟨v, e, yes, no⟩
    refine wpAny_handleBy_cons (codeAny_handlers_test (k.asks hc e ?_)) (fun z => by cases z)
    cases v with
    | false => exact ih (no rfl)
    | true =>
      refine codeAny_handlers_suite_as (HandSPX.lands_againZ k.fly fun h4 f4 up4 => ?_)
      obtain ⟨oe, vs, e1, z1, e2⟩ := f4.there
      have S := (k.again h4 f4 up4).suite e1 e2 k.na k.low k.free
      refine store_ok (X := X.suite a ((a, oe) :: (X.pn ++ pins))) (v := .ref a) S hN hi (.inl hl) rfl (fun s5 S5 => ?_) (.inr hl)
      refine wpAny_mono ((hsu a oe cls d (X.pn ++ pins) z1 ⟨_, e2⟩).run [] s5 _ H _ S5 (yes rfl a k.na)) (fun f s6 hsp => ?_) (fun _ _ z => z.elim)
      cases f <;> first
        | exact (let ⟨_, _, S6, q6⟩ := hsp; gone_ok (S6.unsuite ok) hN hi hl fun s7 J7 => ⟨_, _, J7, q6⟩)
        | exact (let ⟨_, _, _, S6, r6, q6⟩ := hsp; gone_ok (S6.unsuite ok) hN hi hl fun s7 J7 => ⟨_, _, _, J7, r6, q6⟩)
end
section
variable {X : Cx} {body : List Stmt} {h₀ : ExceptHandler} {hds : List ExceptHandler} {l : List Cl} {pos : Pos} {tb : WX → TS} {Wout : WX}
theorem ps_try_cl (hs : X.stack = X.env :: X.outer) (hf : X.env.frame = some X.env.locals) (hN : X.N.Nodup) (tk : Takes X Wout)
    (hb : ∀ (V : WX) (ps : List (Addr × Obj)) (e : Value → Shared → Prop), Takes (X.tr ps e) V → PassesOwn (model X.prog X.w) X.A X.env e → PSs (X.tr ps e) body (tb V))
    (hc : Clauses X (h₀ :: hds) l) : PS X (.Try body (h₀ :: hds) [] [] pos) (fun D σ H => tb (wCl X.K Wout D l) D σ H) := by
  constructor
  intro pins s σ H D I h
  have ok := I.ok
  refine wpAny_Try_except (wpAny_mono ((hb _ _ _ (fun u s' xx => ?_) PassesOwn.looking).run [] s σ H D (I.toTry _) h) (fun f s1 hsp => ?_) (fun _ _ z => z))
  · exact air ok hs hf xx fun a cls d σ H B s3 e k w => by
      subst e
      exact k.down hf hN tk hc w
  · cases f <;> first
      | exact (let ⟨_, _, J, q⟩ := hsp; wpAny_execs_nil ⟨_, _, J.ofTry ok, q⟩)
      | exact (let ⟨_, _, J, q⟩ := hsp; ⟨_, _, J.ofTry ok, q⟩)
      | exact (let ⟨_, _, _, J, r, q⟩ := hsp; ⟨_, _, _, J.ofTry ok, r, q⟩)
end
end Gt
namespace K10
open PySem PySem.Spec PyProof.Rows L2 Gd Gs Gx Ge
open C8 (clsBody Met pe_mt pe_mt0)
section
variable {P : Program} {w : World} {K : PySem.W.Frag} {mg : Str → Option Value} {base : Heap} {C CN fN CT fT CK fK CM CL CM0 : Addr}
/-- the doors of one class -/
structure Doors (P : Program) (w : World) (K : PySem.W.Frag) (mg : Str → Option Value) (base : Heap) (CK CN CT C : Addr) : Prop where
  grow : MetX P w K mg base 4 C "grow" (spB1 K CK C)
  full : MetX P w K mg base 4 C "grow" (spFull CT C)
  own : MetX P w K mg base 3 C "own" (spB1 K CK C)
  depth : MetX P w K mg base 3 C "depth" (spB1 K CK C)
  on : MetX P w K mg base 3 C "on" (spB1 K CK C)
  line : MetX P w K mg base 3 C "line" (spB1 K CK C)
  up : MetX P w K mg base 4 C "up" (spBa K CK C)
  upS : MetX P w K mg base 4 C "up" (spBs K CN C)
  near : MetX P w K mg base 3 C "nearest" (spBa K CK C)
  near2 : MetX P w K mg base 3 C "nearest" (spBb K CK C)
  way : MetX P w K mg base 4 C "way" (spBa K CK C)
  way2 : MetX P w K mg base 4 C "way" (spBb K CK C)
  apart : MetX P w K mg base 5 C "apart" (spBa K CK C)
  apart2 : MetX P w K mg base 5 C "apart" (spBb K CK C)
structure DoorsL (P : Program) (w : World) (K : PySem.W.Frag) (mg : Str → Option Value) (base : Heap) (CK CN C : Addr) : Prop where
  leaps : MetX P w K mg base 3 C "leaps" (spB1 K CK C)
  lw : MetX P w K mg base 3 C "leap_way" (spBa K CK C)
  lwS : MetX P w K mg base 3 C "leap_way" (spBs K CN C)
/-- what is asked that is refused: the word, the thing told -/
inductive Ref (K : PySem.W.Frag) (H : Hp) (CL C : Addr) (ow : List Nat) (way : Int) (v u : V) : Str → V → Prop
  | one {d : PyData} (hd : D1 K H v d) (bad : wholeD d 0 (ow.length : Nat) = false) (h0 : 0 ≤ way) (h1 : way ≤ 10) (h9 : 9 ≤ way → C = CL) : Ref K H CL C ow way v u "make" v
  | two {i : Nat} {d : PyData} (e : v = num i) (hi : i ≤ ow.length) (hd : D1 K H u d) (bad : wholeD d 0 (ow.length : Nat) = false) (h : way = 6 ∨ way = 7 ∨ way = 8) : Ref K H CL C ow way v u "make" u
  | steps {i : Nat} {d : PyData} (e : v = num i) (hi : i ≤ ow.length) (hd : D1 K H u d) (bad : wholeD d 0 (dep ow i : Nat) = false) (h : way = 5 ∨ way = 10 ∧ C = CL) : Ref K H CL C ow way v u "number" u
  | full {i : Nat} (e : v = num i) (hi : i ≤ ow.length) (h63 : ow.length = 63) (h : way = 0) : Ref K H CL C ow way v u "many" (.int 65)
def raisedAs (CK CN CT : Addr) (E : XK) (H : Hp) (wd : Str) (z : V) : Prop := (wd = "make" → ∀ a, H a = none → E (.ref CK) (some a) (upd H a (.xd [("found", z)]))) ∧ (wd = "number" → ∀ a, H a = none → E (.ref CN) (some a) (upd H a (.xd [("found", z)]))) ∧ (wd = "many" → ∀ a, H a = none → E (.ref CT) (some a) (upd H a (.xd [("count", z)])))
def spAsk (K : PySem.W.Frag) (CK CN CT CM CL : Addr) : Sp := fun vs H Q E => ∃ (t C : Addr) (ow ds : List Nat) (way : Int) (v u : V) (wd : Str) (z : V), vs = [.ref t, .int way, v, u] ∧ (C = CM ∨ C = CL) ∧ Tr H t C ow ds ∧ Ref K H CL C ow way v u wd z ∧ raisedAs CK CN CT E H wd z
theorem ok_ask (T : Txt K mg) (dM : Doors P w K mg base CK CN CT CM) (dL : Doors P w K mg base CK CN CT CL) (dP : DoorsL P w K mg base CK CN CL)
    (D : DefAt K mg "_law_asked" s__law_asked ["_law_tree_here", "_law_way", "_law_one", "_law_other"]) : CalX P w K mg base 6 "_law_asked" (spAsk K CK CN CT CM CL) := by
  refine D.calX sc__law_asked (fun vs H Q E h => ?_) (fun f cdv A outer s H vs Q E hG hr h => ?_)
  · obtain ⟨t, C, ow, ds, way, v, u, wd, z, rfl, _⟩ := h
    rfl
  · obtain ⟨t, C, ow, ds, way, v, u, wd, z, rfl, hC, tr, rf, ra⟩ := h
    obtain ⟨dx, o, de, n, fs, e1, l1, l2, l3, nl, e2, e3, lf⟩ := tr.ex
    refine ⟨_, (pss_cons (ps_if (pt_cmpR op_eq (pv 1) pe_int (nomark _))
          (pss_one (ps_ret (pe_or (pe_or (pe_mtX dM.grow hr (by decide) (takes_of rfl rfl rfl rfl) (pv 0) (pa_cons (pv 2) pa_nil)) (pe_mtX dM.full hr (by decide) (takes_of rfl rfl rfl rfl) (pv 0) (pa_cons (pv 2) pa_nil))) (pe_or (pe_mtX dL.grow hr (by decide) (takes_of rfl rfl rfl rfl) (pv 0) (pa_cons (pv 2) pa_nil)) (pe_mtX dL.full hr (by decide) (takes_of rfl rfl rfl rfl) (pv 0) (pa_cons (pv 2) pa_nil)))))) pss_nil)
      (pss_cons (ps_if (pt_cmpR op_eq (pv 1) pe_int (nomark _))
          (pss_one (ps_ret (pe_or (pe_mtX dM.own hr (by decide) (takes_of rfl rfl rfl rfl) (pv 0) (pa_cons (pv 2) pa_nil)) (pe_mtX dL.own hr (by decide) (takes_of rfl rfl rfl rfl) (pv 0) (pa_cons (pv 2) pa_nil))))) pss_nil)
      (pss_cons (ps_if (pt_cmpR op_eq (pv 1) pe_int (nomark _))
          (pss_one (ps_ret (pe_or (pe_mtX dM.depth hr (by decide) (takes_of rfl rfl rfl rfl) (pv 0) (pa_cons (pv 2) pa_nil)) (pe_mtX dL.depth hr (by decide) (takes_of rfl rfl rfl rfl) (pv 0) (pa_cons (pv 2) pa_nil))))) pss_nil)
      (pss_cons (ps_if (pt_cmpR op_eq (pv 1) pe_int (nomark _))
          (pss_one (ps_ret (pe_or (pe_mtX dM.on hr (by decide) (takes_of rfl rfl rfl rfl) (pv 0) (pa_cons (pv 2) pa_nil)) (pe_mtX dL.on hr (by decide) (takes_of rfl rfl rfl rfl) (pv 0) (pa_cons (pv 2) pa_nil))))) pss_nil)
      (pss_cons (ps_if (pt_cmpR op_eq (pv 1) pe_int (nomark _))
          (pss_one (ps_ret (pe_or (pe_mtX dM.line hr (by decide) (takes_of rfl rfl rfl rfl) (pv 0) (pa_cons (pv 2) pa_nil)) (pe_mtX dL.line hr (by decide) (takes_of rfl rfl rfl rfl) (pv 0) (pa_cons (pv 2) pa_nil))))) pss_nil)
      (pss_cons (ps_if (pt_cmpR op_eq (pv 1) pe_int (nomark _))
          (pss_one (ps_ret (pe_or (pe_or (pe_mtX dM.up hr (by decide) (takes_of rfl rfl rfl rfl) (pv 0) (pa_cons (pv 2) (pa_cons (pv 3) pa_nil))) (pe_mtX dM.upS hr (by decide) (takes_of rfl rfl rfl rfl) (pv 0) (pa_cons (pv 2) (pa_cons (pv 3) pa_nil)))) (pe_or (pe_mtX dL.up hr (by decide) (takes_of rfl rfl rfl rfl) (pv 0) (pa_cons (pv 2) (pa_cons (pv 3) pa_nil))) (pe_mtX dL.upS hr (by decide) (takes_of rfl rfl rfl rfl) (pv 0) (pa_cons (pv 2) (pa_cons (pv 3) pa_nil))))))) pss_nil)
      (pss_cons (ps_if (pt_cmpR op_eq (pv 1) pe_int (nomark _))
          (pss_one (ps_ret (pe_or (pe_or (pe_mtX dM.near hr (by decide) (takes_of rfl rfl rfl rfl) (pv 0) (pa_cons (pv 2) (pa_cons (pv 3) pa_nil))) (pe_mtX dM.near2 hr (by decide) (takes_of rfl rfl rfl rfl) (pv 0) (pa_cons (pv 2) (pa_cons (pv 3) pa_nil)))) (pe_or (pe_mtX dL.near hr (by decide) (takes_of rfl rfl rfl rfl) (pv 0) (pa_cons (pv 2) (pa_cons (pv 3) pa_nil))) (pe_mtX dL.near2 hr (by decide) (takes_of rfl rfl rfl rfl) (pv 0) (pa_cons (pv 2) (pa_cons (pv 3) pa_nil))))))) pss_nil)
      (pss_cons (ps_if (pt_cmpR op_eq (pv 1) pe_int (nomark _))
          (pss_one (ps_ret (pe_or (pe_or (pe_mtX dM.way hr (by decide) (takes_of rfl rfl rfl rfl) (pv 0) (pa_cons (pv 2) (pa_cons (pv 3) pa_nil))) (pe_mtX dM.way2 hr (by decide) (takes_of rfl rfl rfl rfl) (pv 0) (pa_cons (pv 2) (pa_cons (pv 3) pa_nil)))) (pe_or (pe_mtX dL.way hr (by decide) (takes_of rfl rfl rfl rfl) (pv 0) (pa_cons (pv 2) (pa_cons (pv 3) pa_nil))) (pe_mtX dL.way2 hr (by decide) (takes_of rfl rfl rfl rfl) (pv 0) (pa_cons (pv 2) (pa_cons (pv 3) pa_nil))))))) pss_nil)
      (pss_cons (ps_if (pt_cmpR op_eq (pv 1) pe_int (nomark _))
          (pss_one (ps_ret (pe_or (pe_or (pe_mtX dM.apart hr (by decide) (takes_of rfl rfl rfl rfl) (pv 0) (pa_cons (pv 2) (pa_cons (pv 3) pa_nil))) (pe_mtX dM.apart2 hr (by decide) (takes_of rfl rfl rfl rfl) (pv 0) (pa_cons (pv 2) (pa_cons (pv 3) pa_nil)))) (pe_or (pe_mtX dL.apart hr (by decide) (takes_of rfl rfl rfl rfl) (pv 0) (pa_cons (pv 2) (pa_cons (pv 3) pa_nil))) (pe_mtX dL.apart2 hr (by decide) (takes_of rfl rfl rfl rfl) (pv 0) (pa_cons (pv 2) (pa_cons (pv 3) pa_nil))))))) pss_nil)
      (pss_one (ps_ret (pe_ifExp (pt_cmpR op_eq (pv 1) pe_int (nomark _)) (pe_mtX dP.leaps hr (by decide) (takes_of rfl rfl rfl rfl) (pv 0) (pa_cons (pv 2) pa_nil)) (pe_or (pe_mtX dP.lw hr (by decide) (takes_of rfl rfl rfl rfl) (pv 0) (pa_cons (pv 2) (pa_cons (pv 3) pa_nil))) (pe_mtX dP.lwS hr (by decide) (takes_of rfl rfl rfl rfl) (pv 0) (pa_cons (pv 2) (pa_cons (pv 3) pa_nil)))))))))))))))), ?_⟩
    cases rf with
    | @one d hd bad h0 h1 h9 =>
      obtain ⟨q, _, _⟩ := ra
      replace q := q rfl
      refine ⟨_, rfl, rfl, _, rfl, ite2 (fun hc1 => ?_) (fun hc1 => ?_)⟩
      · rcases hC with rfl | rfl
        · exact .inl (.inl ⟨_, rfl, t, dx, fs, rfl, e1, nl _ (by decide), _, rfl, t, ow, ds, v, d, rfl, tr, hd, bad, q⟩)
        · exact .inr (.inl ⟨_, rfl, t, dx, fs, rfl, e1, nl _ (by decide), _, rfl, t, ow, ds, v, d, rfl, tr, hd, bad, q⟩)
      refine ⟨_, rfl, rfl, _, rfl, ite2 (fun hc2 => ?_) (fun hc2 => ?_)⟩
      · rcases hC with rfl | rfl
        · exact .inl ⟨_, rfl, t, dx, fs, rfl, e1, nl _ (by decide), _, rfl, t, ow, ds, v, d, rfl, tr, hd, bad, q⟩
        · exact .inr ⟨_, rfl, t, dx, fs, rfl, e1, nl _ (by decide), _, rfl, t, ow, ds, v, d, rfl, tr, hd, bad, q⟩
      refine ⟨_, rfl, rfl, _, rfl, ite2 (fun hc3 => ?_) (fun hc3 => ?_)⟩
      · rcases hC with rfl | rfl
        · exact .inl ⟨_, rfl, t, dx, fs, rfl, e1, nl _ (by decide), _, rfl, t, ow, ds, v, d, rfl, tr, hd, bad, q⟩
        · exact .inr ⟨_, rfl, t, dx, fs, rfl, e1, nl _ (by decide), _, rfl, t, ow, ds, v, d, rfl, tr, hd, bad, q⟩
      refine ⟨_, rfl, rfl, _, rfl, ite2 (fun hc4 => ?_) (fun hc4 => ?_)⟩
      · rcases hC with rfl | rfl
        · exact .inl ⟨_, rfl, t, dx, fs, rfl, e1, nl _ (by decide), _, rfl, t, ow, ds, v, d, rfl, tr, hd, bad, q⟩
        · exact .inr ⟨_, rfl, t, dx, fs, rfl, e1, nl _ (by decide), _, rfl, t, ow, ds, v, d, rfl, tr, hd, bad, q⟩
      refine ⟨_, rfl, rfl, _, rfl, ite2 (fun hc5 => ?_) (fun hc5 => ?_)⟩
      · rcases hC with rfl | rfl
        · exact .inl ⟨_, rfl, t, dx, fs, rfl, e1, nl _ (by decide), _, rfl, t, ow, ds, v, d, rfl, tr, hd, bad, q⟩
        · exact .inr ⟨_, rfl, t, dx, fs, rfl, e1, nl _ (by decide), _, rfl, t, ow, ds, v, d, rfl, tr, hd, bad, q⟩
      refine ⟨_, rfl, rfl, _, rfl, ite2 (fun hc6 => ?_) (fun hc6 => ?_)⟩
      · rcases hC with rfl | rfl
        · exact .inl (.inl ⟨_, rfl, t, dx, fs, rfl, e1, nl _ (by decide), _, rfl, _, rfl, t, ow, ds, v, u, d, rfl, tr, hd, bad, q⟩)
        · exact .inr (.inl ⟨_, rfl, t, dx, fs, rfl, e1, nl _ (by decide), _, rfl, _, rfl, t, ow, ds, v, u, d, rfl, tr, hd, bad, q⟩)
      refine ⟨_, rfl, rfl, _, rfl, ite2 (fun hc7 => ?_) (fun hc7 => ?_)⟩
      · rcases hC with rfl | rfl
        · exact .inl (.inl ⟨_, rfl, t, dx, fs, rfl, e1, nl _ (by decide), _, rfl, _, rfl, t, ow, ds, v, u, d, rfl, tr, hd, bad, q⟩)
        · exact .inr (.inl ⟨_, rfl, t, dx, fs, rfl, e1, nl _ (by decide), _, rfl, _, rfl, t, ow, ds, v, u, d, rfl, tr, hd, bad, q⟩)
      refine ⟨_, rfl, rfl, _, rfl, ite2 (fun hc8 => ?_) (fun hc8 => ?_)⟩
      · rcases hC with rfl | rfl
        · exact .inl (.inl ⟨_, rfl, t, dx, fs, rfl, e1, nl _ (by decide), _, rfl, _, rfl, t, ow, ds, v, u, d, rfl, tr, hd, bad, q⟩)
        · exact .inr (.inl ⟨_, rfl, t, dx, fs, rfl, e1, nl _ (by decide), _, rfl, _, rfl, t, ow, ds, v, u, d, rfl, tr, hd, bad, q⟩)
      refine ⟨_, rfl, rfl, _, rfl, ite2 (fun hc9 => ?_) (fun hc9 => ?_)⟩
      · rcases hC with rfl | rfl
        · exact .inl (.inl ⟨_, rfl, t, dx, fs, rfl, e1, nl _ (by decide), _, rfl, _, rfl, t, ow, ds, v, u, d, rfl, tr, hd, bad, q⟩)
        · exact .inr (.inl ⟨_, rfl, t, dx, fs, rfl, e1, nl _ (by decide), _, rfl, _, rfl, t, ow, ds, v, u, d, rfl, tr, hd, bad, q⟩)
      have n9 : 9 ≤ way := by
        have f : ∀ k : Int, ¬ decide (V.int way = V.int k) = true → way ≠ k := fun k z e => z (decide_eq_true (by rw [e]))
        have := f _ hc1
        have := f _ hc2
        have := f _ hc3
        have := f _ hc4
        have := f _ hc5
        have := f _ hc6
        have := f _ hc7
        have := f _ hc8
        have := f _ hc9
        omega
      have eC := h9 n9
      subst eC
      refine ⟨_, rfl, rfl, _, rfl, ite2 (fun hc10 => ?_) (fun hc10 => ?_)⟩
      · exact ⟨_, rfl, t, dx, fs, rfl, e1, nl _ (by decide), _, rfl, t, ow, ds, v, d, rfl, tr, hd, bad, q⟩
      · exact .inl ⟨_, rfl, t, dx, fs, rfl, e1, nl _ (by decide), _, rfl, _, rfl, t, ow, ds, v, u, d, rfl, tr, hd, bad, q⟩
    | @two i d e hi hd bad h =>
      subst e
      obtain ⟨q, _, _⟩ := ra
      replace q := q rfl
      rcases h with rfl | rfl | rfl
      · refine ⟨_, rfl, rfl, _, rfl, ite2 (fun z => absurd z (by decide)) (fun _ => ?_)⟩
        refine ⟨_, rfl, rfl, _, rfl, ite2 (fun z => absurd z (by decide)) (fun _ => ?_)⟩
        refine ⟨_, rfl, rfl, _, rfl, ite2 (fun z => absurd z (by decide)) (fun _ => ?_)⟩
        refine ⟨_, rfl, rfl, _, rfl, ite2 (fun z => absurd z (by decide)) (fun _ => ?_)⟩
        refine ⟨_, rfl, rfl, _, rfl, ite2 (fun z => absurd z (by decide)) (fun _ => ?_)⟩
        refine ⟨_, rfl, rfl, _, rfl, ite2 (fun z => absurd z (by decide)) (fun _ => ?_)⟩
        refine ⟨_, rfl, rfl, _, rfl, ite2 (fun _ => ?_) (fun z => absurd (by decide) z)⟩
        rcases hC with rfl | rfl
        · exact .inl (.inr ⟨_, rfl, t, dx, fs, rfl, e1, nl _ (by decide), _, rfl, _, rfl, t, ow, ds, i, u, d, rfl, tr, hi, hd, bad, q⟩)
        · exact .inr (.inr ⟨_, rfl, t, dx, fs, rfl, e1, nl _ (by decide), _, rfl, _, rfl, t, ow, ds, i, u, d, rfl, tr, hi, hd, bad, q⟩)
      · refine ⟨_, rfl, rfl, _, rfl, ite2 (fun z => absurd z (by decide)) (fun _ => ?_)⟩
        refine ⟨_, rfl, rfl, _, rfl, ite2 (fun z => absurd z (by decide)) (fun _ => ?_)⟩
        refine ⟨_, rfl, rfl, _, rfl, ite2 (fun z => absurd z (by decide)) (fun _ => ?_)⟩
        refine ⟨_, rfl, rfl, _, rfl, ite2 (fun z => absurd z (by decide)) (fun _ => ?_)⟩
        refine ⟨_, rfl, rfl, _, rfl, ite2 (fun z => absurd z (by decide)) (fun _ => ?_)⟩
        refine ⟨_, rfl, rfl, _, rfl, ite2 (fun z => absurd z (by decide)) (fun _ => ?_)⟩
        refine ⟨_, rfl, rfl, _, rfl, ite2 (fun z => absurd z (by decide)) (fun _ => ?_)⟩
        refine ⟨_, rfl, rfl, _, rfl, ite2 (fun _ => ?_) (fun z => absurd (by decide) z)⟩
        rcases hC with rfl | rfl
        · exact .inl (.inr ⟨_, rfl, t, dx, fs, rfl, e1, nl _ (by decide), _, rfl, _, rfl, t, ow, ds, i, u, d, rfl, tr, hi, hd, bad, q⟩)
        · exact .inr (.inr ⟨_, rfl, t, dx, fs, rfl, e1, nl _ (by decide), _, rfl, _, rfl, t, ow, ds, i, u, d, rfl, tr, hi, hd, bad, q⟩)
      · refine ⟨_, rfl, rfl, _, rfl, ite2 (fun z => absurd z (by decide)) (fun _ => ?_)⟩
        refine ⟨_, rfl, rfl, _, rfl, ite2 (fun z => absurd z (by decide)) (fun _ => ?_)⟩
        refine ⟨_, rfl, rfl, _, rfl, ite2 (fun z => absurd z (by decide)) (fun _ => ?_)⟩
        refine ⟨_, rfl, rfl, _, rfl, ite2 (fun z => absurd z (by decide)) (fun _ => ?_)⟩
        refine ⟨_, rfl, rfl, _, rfl, ite2 (fun z => absurd z (by decide)) (fun _ => ?_)⟩
        refine ⟨_, rfl, rfl, _, rfl, ite2 (fun z => absurd z (by decide)) (fun _ => ?_)⟩
        refine ⟨_, rfl, rfl, _, rfl, ite2 (fun z => absurd z (by decide)) (fun _ => ?_)⟩
        refine ⟨_, rfl, rfl, _, rfl, ite2 (fun z => absurd z (by decide)) (fun _ => ?_)⟩
        refine ⟨_, rfl, rfl, _, rfl, ite2 (fun _ => ?_) (fun z => absurd (by decide) z)⟩
        rcases hC with rfl | rfl
        · exact .inl (.inr ⟨_, rfl, t, dx, fs, rfl, e1, nl _ (by decide), _, rfl, _, rfl, t, ow, ds, i, u, d, rfl, tr, hi, hd, bad, q⟩)
        · exact .inr (.inr ⟨_, rfl, t, dx, fs, rfl, e1, nl _ (by decide), _, rfl, _, rfl, t, ow, ds, i, u, d, rfl, tr, hi, hd, bad, q⟩)
    | @steps i d e hi hd bad h =>
      subst e
      obtain ⟨_, q, _⟩ := ra
      replace q := q rfl
      rcases h with rfl | ⟨rfl, rfl⟩
      · refine ⟨_, rfl, rfl, _, rfl, ite2 (fun z => absurd z (by decide)) (fun _ => ?_)⟩
        refine ⟨_, rfl, rfl, _, rfl, ite2 (fun z => absurd z (by decide)) (fun _ => ?_)⟩
        refine ⟨_, rfl, rfl, _, rfl, ite2 (fun z => absurd z (by decide)) (fun _ => ?_)⟩
        refine ⟨_, rfl, rfl, _, rfl, ite2 (fun z => absurd z (by decide)) (fun _ => ?_)⟩
        refine ⟨_, rfl, rfl, _, rfl, ite2 (fun z => absurd z (by decide)) (fun _ => ?_)⟩
        refine ⟨_, rfl, rfl, _, rfl, ite2 (fun _ => ?_) (fun z => absurd (by decide) z)⟩
        rcases hC with rfl | rfl
        · exact .inl (.inr ⟨_, rfl, t, dx, fs, rfl, e1, nl _ (by decide), _, rfl, _, rfl, t, ow, ds, i, u, d, rfl, tr, hi, hd, bad, q⟩)
        · exact .inr (.inr ⟨_, rfl, t, dx, fs, rfl, e1, nl _ (by decide), _, rfl, _, rfl, t, ow, ds, i, u, d, rfl, tr, hi, hd, bad, q⟩)
      · refine ⟨_, rfl, rfl, _, rfl, ite2 (fun z => absurd z (by decide)) (fun _ => ?_)⟩
        refine ⟨_, rfl, rfl, _, rfl, ite2 (fun z => absurd z (by decide)) (fun _ => ?_)⟩
        refine ⟨_, rfl, rfl, _, rfl, ite2 (fun z => absurd z (by decide)) (fun _ => ?_)⟩
        refine ⟨_, rfl, rfl, _, rfl, ite2 (fun z => absurd z (by decide)) (fun _ => ?_)⟩
        refine ⟨_, rfl, rfl, _, rfl, ite2 (fun z => absurd z (by decide)) (fun _ => ?_)⟩
        refine ⟨_, rfl, rfl, _, rfl, ite2 (fun z => absurd z (by decide)) (fun _ => ?_)⟩
        refine ⟨_, rfl, rfl, _, rfl, ite2 (fun z => absurd z (by decide)) (fun _ => ?_)⟩
        refine ⟨_, rfl, rfl, _, rfl, ite2 (fun z => absurd z (by decide)) (fun _ => ?_)⟩
        refine ⟨_, rfl, rfl, _, rfl, ite2 (fun z => absurd z (by decide)) (fun _ => ?_)⟩
        refine ⟨_, rfl, rfl, _, rfl, ite2 (fun z => absurd z (by decide)) (fun _ => ?_)⟩
        exact .inr ⟨_, rfl, t, dx, fs, rfl, e1, nl _ (by decide), _, rfl, _, rfl, t, ow, ds, i, u, d, rfl, tr, hi, hd, bad, q⟩
    | @full i e hi h63 h =>
      subst e
      subst h
      obtain ⟨_, _, q⟩ := ra
      replace q := q rfl
      refine ⟨_, rfl, rfl, _, rfl, ite2 (fun _ => ?_) (fun z => absurd (by decide) z)⟩
      rcases hC with rfl | rfl
      · exact .inl (.inr ⟨_, rfl, t, dx, fs, rfl, e1, nl _ (by decide), _, rfl, t, ow, ds, i, rfl, tr, hi, h63, q⟩)
      · exact .inr (.inr ⟨_, rfl, t, dx, fs, rfl, e1, nl _ (by decide), _, rfl, t, ow, ds, i, rfl, tr, hi, h63, q⟩)
end
end K10
namespace K10
open PySem PySem.Spec PyProof.Rows L2 Gd Gs Gx Ge
open C8 (clsBody Met pe_mt pe_mt0)
/-- what the written part says of the four classes of errors -/
structure ErrQ (K : PySem.W.Frag) (mg : Str → Option Value) (CK CN CT CM0 : Addr) : Prop where
  g_NoNumber : mg "NoNumber" = some (.ref CN)
  g_MakesError : mg "MakesError" = some (.ref CM0)
  kk : PySem.W.exmOne K (.ref CK) (.ref CK) = some true
  nk : PySem.W.exmOne K (.ref CN) (.ref CK) = some false
  nn : PySem.W.exmOne K (.ref CN) (.ref CN) = some true
  tk : PySem.W.exmOne K (.ref CT) (.ref CK) = some false
  tn : PySem.W.exmOne K (.ref CT) (.ref CN) = some false
  tt : PySem.W.exmOne K (.ref CT) (.ref CT) = some true
abbrev tsF (C : Addr) (wd : Str) : Addr → Value → Option Addr → TS := fun a cls d => tAsg (tLst (tCons (tC (.str wd)) (tCons (tFound C a cls d (tVar 5)) tNil))) (gName 4)
abbrev tsC (C : Addr) (wd : Str) : Addr → Value → Option Addr → TS := fun a cls d => tAsg (tLst (tCons (tC (.str wd)) (tCons (Gc.tFound C a cls d (tVar 5)) tNil))) (gName 4)
abbrev tsO : Addr → Value → Option Addr → TS := fun _ _ _ => tAsg (tLst (tCons (tC (.str "other")) tNil)) (gName 4)
section
variable {P : Program} {w : World} {K : PySem.W.Frag} {mg : Str → Option Value} {base : Heap} {C CN fN CT fT CK fK CM CL CM0 : Addr}
def spTold (K : PySem.W.Frag) (CM CL : Addr) : Sp := fun vs H Q _ => ∃ (t C : Addr) (ow ds : List Nat) (way : Int) (v u : V) (wd : Str) (z : V), vs = [.ref t, .int way, v, u] ∧ (C = CM ∨ C = CL) ∧ Tr H t C ow ds ∧ (∀ H', Same H H' → Ref K H' CL C ow way v u wd z) ∧
  ∀ (p : Addr) (H' : Hp), H p = none → Same H H' → H' p = some (.lst [.str wd, z]) → Q (.ref p) H'
theorem ok_told (T : Txt K mg) (RK : ErrK P K mg CK fK) (RN : ErrN P K mg CN fN CM0) (RT : ErrT P K mg CT fT) (Q : ErrQ K mg CK CN CT CM0) (c__law_asked : CalX P w K mg base 6 "_law_asked" (spAsk K CK CN CT CM CL))
    (D : DefAt K mg "_law_told" s__law_told ["_law_tree_here", "_law_way", "_law_one", "_law_other"]) : CalG P w K mg base 7 "_law_told" (spTold K CM CL) := by
  refine D.cal sc__law_told (fun vs H Q E h => ?_) (fun f cdv A outer s H vs Q' E hG hr h => ?_)
  · obtain ⟨t, C, ow, ds, way, v, u, wd, z, rfl, _⟩ := h
    rfl
  · obtain ⟨t, C, ow, ds, way, v, u, wd, z, rfl, hC, tr, rf, q⟩ := h
    refine ⟨_, (pss_cons (ps_set (i := 4) sc__law_told.nd rfl (Or.inl rfl) pe_non)
      (pss_cons (Gt.ps_try_cl (tb := fun W => tAsg (tLst (tCons (tC (.str "told")) (tCons (tCallS (spAsk K CK CN CT CM CL) (WE W) (tCons (tVar 0) (tCons (tVar 1) (tCons (tVar 2) (tCons (tVar 3) tNil))))) tNil))) (gName 4)) (Wout := fun _ _ _ _ => False) (l := [(.ref CK, some 5, tsF CK "make"), (.ref CN, some 5, tsF CN "number"), (.ref CT, some 5, tsC CT "many"), (.ref CM0, none, tsO)]) rfl rfl sc__law_told.nd takes0 (fun W pn xe tk _ => pss_one (ps_set (i := 4) sc__law_told.nd rfl (Or.inl rfl) (pe_lst (pa_cons pe_str (pa_cons (by exact (pe_gx c__law_asked hG (hr.mono (by decide)) (by rfl) tk (by exact (pa_cons (pv 0) (pa_cons (pv 1) (pa_cons (pv 2) (pa_cons (pv 3) pa_nil))))))) pa_nil)))))
  (.named ⟨rfl, by decide, Or.inl RK.g_NoMake⟩ rfl rfl (fun a oe cls d pn hz hf => pss_one (ps_set (i := 4) sc__law_told.nd rfl (Or.inl rfl) (pe_lst (pa_cons pe_str (pa_cons (pe_found RK.e_NoMake hz hf (pv 5)) pa_nil))))) (.named ⟨rfl, by decide, Or.inl RN.g_NoNumber⟩ rfl rfl (fun a oe cls d pn hz hf => pss_one (ps_set (i := 4) sc__law_told.nd rfl (Or.inl rfl) (pe_lst (pa_cons pe_str (pa_cons (pe_found RN.e_NoNumber hz hf (pv 5)) pa_nil))))) (.named ⟨rfl, by decide, Or.inl RT.g_TooMany⟩ rfl rfl (fun a oe cls d pn hz hf => pss_one (ps_set (i := 4) sc__law_told.nd rfl (Or.inl rfl) (pe_lst (pa_cons pe_str (pa_cons (Gc.pe_found RT.e_TooMany hz hf (pv 5)) pa_nil))))) (.bare ⟨rfl, by decide, Or.inl Q.g_MakesError⟩ (fun a oe cls d pn hz hf => pss_one (ps_set (i := 4) sc__law_told.nd rfl (Or.inl rfl) (pe_lst (pa_cons pe_str pa_nil)))) .nil)))))
      (pss_one (ps_ret (pv 4))))), ?_⟩
    refine ⟨_, rfl, _, rfl, _, rfl, _, rfl, t, C, ow, ds, way, v, u, wd, z, rfl, hC, tr, rf H (fun _ _ z => z), fun e a ha => ?_, fun e a ha => ?_, fun e a ha => ?_⟩
    · subst e
      have s1 : Same H (upd H a (.xd [("found", z)])) := same_new ha
      have hx : (upd H a (.xd [("found", z)])) a = some (.xd [("found", z)]) := upd_same
      generalize upd H a (.xd [("found", z)]) = H1 at *
      refine ⟨true, Q.kk, fun _ a' ha' => ?_, (fun z => by cases z)⟩
      refine ⟨_, rfl, rfl, rfl, a, z, rfl, hx, (by show 2 ≤ sizeLine; decide), fun p hp => ?_⟩
      exact ⟨_, rfl, q p _ (none_of s1 hp) (s1.trans (same_new hp)) upd_same⟩
    · subst e
      have s1 : Same H (upd H a (.xd [("found", z)])) := same_new ha
      have hx : (upd H a (.xd [("found", z)])) a = some (.xd [("found", z)]) := upd_same
      generalize upd H a (.xd [("found", z)]) = H1 at *
      refine ⟨false, Q.nk, (fun z => by cases z), fun _ => ⟨true, Q.nn, fun _ a' ha' => ?_, (fun z => by cases z)⟩⟩
      refine ⟨_, rfl, rfl, rfl, a, z, rfl, hx, (by show 2 ≤ sizeLine; decide), fun p hp => ?_⟩
      exact ⟨_, rfl, q p _ (none_of s1 hp) (s1.trans (same_new hp)) upd_same⟩
    · subst e
      have s1 : Same H (upd H a (.xd [("count", z)])) := same_new ha
      have hx : (upd H a (.xd [("count", z)])) a = some (.xd [("count", z)]) := upd_same
      generalize upd H a (.xd [("count", z)]) = H1 at *
      refine ⟨false, Q.tk, (fun z => by cases z), fun _ => ⟨false, Q.tn, (fun z => by cases z), fun _ => ⟨true, Q.tt, fun _ a' ha' => ?_, (fun z => by cases z)⟩⟩⟩
      refine ⟨_, rfl, rfl, rfl, a, z, rfl, hx, (by show 2 ≤ sizeLine; decide), fun p hp => ?_⟩
      exact ⟨_, rfl, q p _ (none_of s1 hp) (s1.trans (same_new hp)) upd_same⟩
end
end K10
namespace K10
open PySem PySem.Spec PyProof.Rows L2 Gd Gs Gx Ge
open C8 (clsBody Met pe_mt pe_mt0)
/-- the things that are handed in -/
inductive Th (H : Hp) : V → PyData → Prop
  | int (i : Int) (h0 : -(10 : Int) ^ 40 ≤ i) (h1 : i ≤ 10 ^ 40) : Th H (.int i) (.int i)
  | bl (b : Bool) : Th H (.bl b) (.bool b)
  | non : Th H .non .none
  | str (z : Str) (h : z = "0" ∨ z = "" ∨ z = "1") : Th H (.str z) (.str z)
  | l0 {a : Addr} (e : H a = some (.lst [.int 0])) : Th H (.ref a) (.list [.int 0])
  | t0 {a : Addr} (e : H a = some (.tup [.int 0])) : Th H (.ref a) (.tuple [.int 0])
  | dn {a : Addr} (e : H a = some (.dK [])) : Th H (.ref a) (.dict [])
  | ln {a : Addr} (e : H a = some (.lst [])) : Th H (.ref a) (.list [])
theorem Th.d1 {K : PySem.W.Frag} {H : Hp} {v : V} {d : PyData} (h : Th H v d) : D1 K H v d := by
  cases h with
  | int i h0 h1 => exact .dp (.int i)
  | bl b => exact .dp (.bl b)
  | non => exact .dp .non
  | str z h => exact .dp (.str z)
  | l0 e => exact .dp (.lst (SqL.of e) (.cons (.int 0) .nil))
  | t0 e => exact .dp (.tup (SqT.of e) (.cons (.int 0) .nil))
  | dn e => exact .emp e
  | ln e => exact .dp (.lst (SqL.of e) .nil)
theorem Th.kp {H H' : Hp} {v : V} {d : PyData} {b : Addr} (h : Th H v d) (hB : BoxAt H b) (k : Kp b H H') : Th H' v d := by
  obtain ⟨x, y, z, _, _, _, hb⟩ := hB
  cases h with
  | int i h0 h1 => exact .int i h0 h1
  | bl b => exact .bl b
  | non => exact .non
  | str z h => exact .str z h
  | l0 e => exact .l0 (k _ _ (fun w => by rw [w, hb] at e; cases e) e)
  | t0 e => exact .t0 (k _ _ (fun w => by rw [w, hb] at e; cases e) e)
  | dn e => exact .dn (k _ _ (fun w => by rw [w, hb] at e; cases e) e)
  | ln e => exact .ln (k _ _ (fun w => by rw [w, hb] at e; cases e) e)
theorem Th.same {H H' : Hp} {v : V} {d : PyData} (h : Th H v d) (s : Same H H') : Th H' v d := by
  cases h with
  | int i h0 h1 => exact .int i h0 h1
  | bl b => exact .bl b
  | non => exact .non
  | str z h => exact .str z h
  | l0 e => exact .l0 (s _ _ e)
  | t0 e => exact .t0 (s _ _ e)
  | dn e => exact .dn (s _ _ e)
  | ln e => exact .ln (s _ _ e)
theorem Th.ok {H : Hp} {v : V} {d : PyData} (h : Th H v d) : Okd d 100 1 := by
  cases h with
  | int i h0 h1 => exact (okInt ⟨h0, h1⟩).up (by decide) (by decide)
  | bl b => exact (okBool b).up (by decide) (by decide)
  | non => exact okNone.up (by decide) (by decide)
  | str z h =>
    rcases h with rfl | rfl | rfl
    · exact ⟨by decide +kernel, by decide +kernel, by decide +kernel⟩
    · exact ⟨by decide +kernel, by decide +kernel, by decide +kernel⟩
    · exact ⟨by decide +kernel, by decide +kernel, by decide +kernel⟩
  | l0 e => exact ⟨by decide +kernel, by decide +kernel, by decide +kernel⟩
  | t0 e => exact ⟨by decide +kernel, by decide +kernel, by decide +kernel⟩
  | dn e => exact ⟨by decide +kernel, by decide +kernel, by decide +kernel⟩
  | ln e => exact ⟨by decide +kernel, by decide +kernel, by decide +kernel⟩
/-- a word and a thing -/
theorem wdOk {wd : Str} {d : PyData} (hw : wd = "make" ∨ wd = "number") (h : Okd d 100 1) : Okd (.list [.str wd, d]) 400 2 := by
  refine (okList (ds := [.str wd, d]) (m := 100) (e := 1) (n := 2) (fun x hx => ?_) (Nat.le_refl 2)).up (by decide) (by decide)
  rcases List.mem_cons.mp hx with rfl | hx
  · rcases hw with rfl | rfl
    · exact ⟨by decide +kernel, by decide +kernel, by decide +kernel⟩
    · exact ⟨by decide +kernel, by decide +kernel, by decide +kernel⟩
  · obtain rfl := List.mem_singleton.mp hx
    exact h
theorem pickN (ys zs : List V) {d : Int} (h0 : 0 ≤ d) (h : d < ys.length) : ∃ v, v ∈ ys ∧ atI (ys ++ zs) d = some v := by
  obtain ⟨j, rfl⟩ : ∃ j : Nat, d = j := ⟨d.toNat, by omega⟩
  have hj : j < ys.length := by omega
  exact ⟨ys[j], List.getElem_mem hj, atI_nat (by rw [List.getElem?_append_left hj, List.getElem?_eq_getElem hj])⟩
section
variable {P : Program} {w : World} {K : PySem.W.Frag} {mg : Str → Option Value} {base : Heap} {C CN fN CT fT CK fK CM CL CM0 : Addr}
def spBadT : Sp := fun vs H Q _ => ∃ (b : Addr) (n : Nat), vs = [.ref b, num (n + 1)] ∧ BoxAt H b ∧ n ≤ 63 ∧
  ∀ (z : V) (d : PyData) (H' : Hp), Th H' z d → wholeD d 0 (n : Nat) = false → BoxAt H' b → Kp b H H' → Q z H'
theorem ok_bad (T : Txt K mg) (c__law_take : CalG P w K mg base 1 "_law_take" spTake) (D : DefAt K mg "_law_bad" s__law_bad ["_law_box_here", "_law_many"]) : CalG P w K mg base 2 "_law_bad" spBadT := by
  refine D.cal sc__law_bad (fun vs H Q E h => ?_) (fun f cdv A outer s H vs Q E hG hr h => ?_)
  · obtain ⟨b, n, rfl, _⟩ := h
    rfl
  · obtain ⟨b, n, rfl, hB, hn, q⟩ := h
    refine ⟨_, (pss_cons (ps_set (i := 2) sc__law_bad.nd rfl (Or.inl rfl) (pe_lst (pa_cons (pv 1) (pa_cons (pe_un un_neg pe_int) (pa_cons pe_bl (pa_cons pe_bl (pa_cons pe_non (pa_cons pe_str (pa_cons pe_str (pa_cons (pe_lst (pa_cons pe_int pa_nil)) (pa_cons (pe_tup (pa_cons pe_int pa_nil)) (pa_cons pe_dnewK (pa_cons (pe_op op_add (pv 1) pe_int) (pa_cons (pe_op op_pow pe_int pe_int) (pa_cons (pe_op op_sub pe_int (pe_op op_pow pe_int pe_int)) (pa_cons (pe_lst pa_nil) (pa_cons pe_int pa_nil)))))))))))))))))
      (pss_one (ps_ret (pe_ix ix_list (pv 2) (pe_g c__law_take hG (hr.mono (by decide)) (by rfl) (pa_cons (pv 0) (pa_cons (pe_op op_add pe_int (pe_callTy call_int1 (by rfl) T.t_int boot_int_ (pa_cons (pe_cmpR op_lt (pv 1) pe_int (nomark _)) pa_nil))) pa_nil))) (fun _ _ => rfl))))), ?_⟩
    refine ⟨_, rfl, _, rfl, (by show 1 ≤ sizeLine; decide), fun p1 h1 => ⟨(by show 1 ≤ sizeLine; decide), fun p2 h2 => fun p3 h3 => ⟨_, rfl, _, _, rfl, rfl, _, _, rfl, rfl, ⟨by decide, by decide, by decide⟩, _, _, rfl, rfl, ⟨by decide, by decide, by decide⟩, _, _, rfl, rfl, (by show 0 ≤ sizeLine; decide), fun p4 h4 => ⟨(by show 15 ≤ sizeLine; decide), fun l hl => ?_⟩⟩⟩⟩
    have s1 := same_new (o := .lst [.int 0]) h1
    have e1 : (upd H p1 (.lst [.int 0])) p1 = some (.lst [.int 0]) := upd_same
    generalize upd H p1 (.lst [.int 0]) = H1 at *
    have s2 := same_new (o := .tup [.int 0]) h2
    have e2 : (upd H1 p2 (.tup [.int 0])) p2 = some (.tup [.int 0]) := upd_same
    generalize upd H1 p2 (.tup [.int 0]) = H2 at *
    have s3 := same_new (o := .dK []) h3
    have e3 : (upd H2 p3 (.dK [])) p3 = some (.dK []) := upd_same
    generalize upd H2 p3 (.dK []) = H3 at *
    have s4 := same_new (o := .lst []) h4
    have e4 : (upd H3 p4 (.lst [])) p4 = some (.lst []) := upd_same
    generalize upd H3 p4 (.lst []) = H4 at *
    have s04 := s1.trans (s2.trans (s3.trans s4))
    have o1 := s4 _ _ (s3 _ _ (s2 _ _ e1))
    have o2 := s4 _ _ (s3 _ _ e2)
    have o3 := s4 _ _ e3
    have big : (1000 : Int) < 10 ^ (39 : Int).toNat := by decide
    have big2 : (10 : Int) ^ (39 : Int).toNat < 10 ^ 40 := by decide
    have nlo : -(10 : Int) ^ 40 < -1 := by decide
    generalize hys : ([num (n + 1), .int (-1), .bl true, .bl false, .non, .str "0", .str "", .ref p1, .ref p2, .ref p3, .int (((n + 1 : Nat) : Int) + 7), .int (10 ^ (39 : Int).toNat), .int (0 - 10 ^ (39 : Int).toNat), .ref p4] : List V) = ys
    have hyl : ys.length = 14 := by rw [← hys]; rfl
    have exs : ([num (n + 1), .int (-1), .bl true, .bl false, .non, .str "0", .str "", .ref p1, .ref p2, .ref p3, .int (((n + 1 : Nat) : Int) + 7), .int (10 ^ (39 : Int).toNat), .int (0 - 10 ^ (39 : Int).toNat), .ref p4, .int 64] : List V) = ys ++ [.int 64] := by rw [← hys]; rfl
    rw [exs]
    have s5 := same_new (o := .lst (ys ++ [.int 64])) hl
    have e5 : (upd H4 l (.lst (ys ++ [.int 64]))) l = some (.lst (ys ++ [.int 64])) := upd_same
    have wi : ∀ i : Int, (i < 0 ∨ (n : Int) < i) → wholeD (.int i) 0 (n : Nat) = false := fun i hi => by
      have e : wholeD (.int i) 0 (n : Nat) = (decide (0 ≤ i) && decide (i ≤ (n : Nat))) := rfl
      rw [e]
      rcases hi with hi | hi
      · rw [decide_eq_false (by omega)]
        rfl
      · rw [decide_eq_false (by omega : ¬ i ≤ (n : Nat)), Bool.and_false]
    have hall : ∀ v, v ∈ ys → ∃ d, Th H4 v d ∧ wholeD d 0 (n : Nat) = false := fun v hv => by
      rw [← hys] at hv
      simp only [List.mem_cons, List.not_mem_nil, or_false] at hv
      rcases hv with rfl | rfl | rfl | rfl | rfl | rfl | rfl | rfl | rfl | rfl | rfl | rfl | rfl | rfl
      · exact ⟨_, .int _ (by omega) (by omega), wi _ (.inr (by omega))⟩
      · exact ⟨_, .int _ (by omega) (by omega), wi _ (.inl (by omega))⟩
      · exact ⟨_, .bl _, rfl⟩
      · exact ⟨_, .bl _, rfl⟩
      · exact ⟨_, .non, rfl⟩
      · exact ⟨_, .str _ (.inl rfl), rfl⟩
      · exact ⟨_, .str _ (.inr (.inl rfl)), rfl⟩
      · exact ⟨_, .l0 o1, rfl⟩
      · exact ⟨_, .t0 o2, rfl⟩
      · exact ⟨_, .dn o3, rfl⟩
      · exact ⟨_, .int _ (by omega) (by omega), wi _ (.inr (by omega))⟩
      · exact ⟨_, .int _ (by omega) (by omega), wi _ (.inr (by omega))⟩
      · exact ⟨_, .int _ (by omega) (by omega), wi _ (.inl (by omega))⟩
      · exact ⟨_, .ln (by assumption), rfl⟩
    have hB5 : BoxAt (upd H4 l (.lst (ys ++ [.int 64]))) b := boxSame hB (s04.trans s5)
    have lb : l ≠ b := (boxSame hB s04).ne hl
    generalize upd H4 l (.lst (ys ++ [.int 64])) = H5 at *
    refine ⟨_, rfl, _, rfl, _, rfl, _, _, rfl, rfl, .inr ⟨_, rfl, _, _, rfl, rfl, ?_⟩⟩
    have k5 : Kp b H H5 := fun c o hc z => s5 _ _ (s04 _ _ z)
    have last : ∀ (d : Int) (H6 : Hp) (v : V), 0 ≤ d → (v ∈ ys ∨ (v = .int 64 ∧ n < 63)) → BoxAt H6 b → (∀ c, c ≠ b → H6 c = H5 c) → ∃ dd, Th H6 v dd ∧ wholeD dd 0 (n : Nat) = false := fun d H6 v d0 hv hB6 k6 => by
      rcases hv with hv | ⟨rfl, hn2⟩
      · obtain ⟨dd, t1, t2⟩ := hall v hv
        exact ⟨dd, (t1.same s5).kp hB5 (kp_of k6), t2⟩
      · exact ⟨_, .int 64 (by decide) (by decide), wi _ (.inr (by omega))⟩
    by_cases h64 : ((n + 1 : Nat) : Int) < 64
    · rw [show decide (((n + 1 : Nat) : Int) < 64) = true from decide_eq_true h64, if_pos rfl]
      refine ⟨b, 14 + 1, rfl, hB5, by decide, by decide, fun d H6 d0 d1 hB6 k6 => ?_⟩
      obtain ⟨v, hv, hat⟩ := pickL (ys ++ [.int 64]) d0 (by rw [List.length_append, hyl]; exact d1)
      have hv2 : v ∈ ys ∨ (v = .int 64 ∧ n < 63) := by
        rcases List.mem_append.mp hv with h | h
        · exact .inl h
        · exact .inr ⟨List.mem_singleton.mp h, by omega⟩
      obtain ⟨dd, t1, t2⟩ := last d H6 v d0 hv2 hB6 k6
      exact ⟨l, _, _, v, rfl, rfl, SqL.of ((k6 _ lb).trans e5), hat, q v dd H6 t1 t2 hB6 (k5.trans (kp_of k6))⟩
    · rw [show decide (((n + 1 : Nat) : Int) < 64) = false from decide_eq_false h64, if_neg (by decide)]
      refine ⟨b, 14 + 0, rfl, hB5, by decide, by decide, fun d H6 d0 d1 hB6 k6 => ?_⟩
      obtain ⟨v, hv, hat⟩ := pickN ys [.int 64] d0 (by rw [hyl]; exact d1)
      obtain ⟨dd, t1, t2⟩ := last d H6 v d0 (.inl hv) hB6 k6
      exact ⟨l, _, _, v, rfl, rfl, SqL.of ((k6 _ lb).trans e5), hat, q v dd H6 t1 t2 hB6 (k5.trans (kp_of k6))⟩
end
end K10
namespace K10
open PySem PySem.Spec PyProof.Rows L2 Gd Gs Gx Ge
open C8 (clsBody Met pe_mt pe_mt0)
/-- a tree that stands as long as its own is kept -/
def TK (N : Addr → Prop) (H : Hp) (t C : Addr) (ow : List Nat) : Prop := ∀ H', (∀ c u, N c → H c = some u → H' c = some u) → Tr H' t C ow (depths ow)
theorem TK.kp {N : Addr → Prop} {H H' : Hp} {t C : Addr} {ow : List Nat} (h : TK N H t C ow) (k : ∀ c u, N c → H c = some u → H' c = some u) : TK N H' t C ow := fun H2 k2 => h H2 fun c u n z => k2 c u n (k c u n z)
theorem TK.same {N : Addr → Prop} {H H' : Hp} {t C : Addr} {ow : List Nat} (h : TK N H t C ow) (s : Same H H') : TK N H' t C ow := h.kp fun c u _ z => s c u z
theorem TK.tr {N : Addr → Prop} {H : Hp} {t C : Addr} {ow : List Nat} (h : TK N H t C ow) : Tr H t C ow (depths ow) := h H fun _ _ _ z => z
theorem TK.cut {N : Addr → Prop} {H : Hp} {t C : Addr} {ow : List Nat} (h : TK N H t C ow) : TK (fun c => N c ∧ H c ≠ none) H t C ow := fun H' k => h H' fun c u n z => k c u ⟨n, by rw [z]; simp⟩ z
theorem TK.of {CM CL : Addr} {kind : Int} {N : Addr → Prop} {H : Hp} {t : Addr} {ow : List Nat} (h : RK CM CL kind N H t ow) : ∃ C, (C = CM ∨ C = CL) ∧ (kind = 1 → C = CL) ∧ TK (fun c => N c ∨ c = t) H t C ow := by
  rcases h with ⟨e, lw⟩ | ⟨ne, tw⟩
  · refine ⟨CL, .inr rfl, fun _ => rfl, fun H' k => ?_⟩
    obtain ⟨N1, N2, dx, q, fs, tw, e1, l1, lv, dis, i1, i2⟩ := lw.ex
    have y : Lw CL N H' t ow := ⟨N1, N2, dx, q, fs, tw.kp fun c u y z => k c u (y.imp (i1 c) id) z, k _ _ (.inr rfl) e1, l1, lv.mono (fun _ z => z) fun c u y z => k c u (.inl (i2 c y)) z, dis, i1, i2⟩
    exact y.tr
  · exact ⟨CM, .inl rfl, fun e => absurd e ne, fun H' k => (tw.kp fun c u y z => k c u y z).tr⟩
section
variable {P : Program} {w : World} {K : PySem.W.Frag} {mg : Str → Option Value} {base : Heap} {C CN fN CT fT CK fK CM CL CM0 : Addr}
def spRight (CM CL : Addr) : Sp := fun vs H Q _ => ∃ (N : Addr → Prop) (b t a C : Addr) (kind : Int) (ow : List Nat), vs = [.ref b, .ref t, .int kind, .ref a] ∧ BoxAt H b ∧ (kind = 0 ∨ kind = 1 ∧ C = CL) ∧ (C = CM ∨ C = CL) ∧ TK N H t C ow ∧ ¬ N b ∧ OwL H a ow ∧ ow.length ≤ 63 ∧ a ≠ b ∧
  ∀ H', BoxAt H' b → Kp b H H' → Q (.bl true) H'
theorem ok_right (T : Txt K mg) (c__law_take : CalG P w K mg base 1 "_law_take" spTake) (c__law_pick : CalG P w K mg base 2 "_law_pick" spPick) (c__law_bad : CalG P w K mg base 2 "_law_bad" spBadT) (c__law_told : CalG P w K mg base 7 "_law_told" (spTold K CM CL))
    (D : DefAt K mg "_law_right" s__law_right ["_law_box_here", "_law_tree_here", "_law_kind", "_law_owners_here"]) : CalG P w K mg base 8 "_law_right" (spRight CM CL) := by
  refine D.cal sc__law_right (fun vs H Q E h => ?_) (fun f cdv A outer s H vs Q E hG hr h => ?_)
  · obtain ⟨N, b, t, a, C, kind, ow, rfl, _⟩ := h
    rfl
  · obtain ⟨N, b, t, a, C, kind, ow, rfl, hB, hk, hC, x, nb, hO, few, nab, q⟩ := h
    refine ⟨_, (pss_cons (ps_set (i := 4) sc__law_right.nd rfl (Or.inl rfl) (pe_g c__law_take hG (hr.mono (by decide)) (by rfl) (pa_cons (pv 0) (pa_cons (pe_op op_add pe_int (pe_op op_mul pe_int (pv 2))) pa_nil))))
      (pss_cons (ps_set (i := 5) sc__law_right.nd rfl (Or.inl rfl) (pe_g c__law_take hG (hr.mono (by decide)) (by rfl) (pa_cons (pv 0) (pa_cons pe_int pa_nil))))
      (pss_cons (ps_set (i := 6) sc__law_right.nd rfl (Or.inl rfl) (pe_g c__law_bad hG (hr.mono (by decide)) (by rfl) (pa_cons (pv 0) (pa_cons (pe_callB call_len (by rfl) T.b_len boot_len_ (pa_cons (pv 3) pa_nil)) pa_nil))))
      (pss_cons (ps_set (i := 7) sc__law_right.nd rfl (Or.inl rfl) (pe_g c__law_bad hG (hr.mono (by decide)) (by rfl) (pa_cons (pv 0) (pa_cons (pe_callB call_len (by rfl) T.b_len boot_len_ (pa_cons (pv 3) pa_nil)) pa_nil))))
      (pss_cons (ps_set (i := 8) sc__law_right.nd rfl (Or.inl rfl) (pe_g c__law_pick hG (hr.mono (by decide)) (by rfl) (pa_cons (pv 0) (pa_cons (pe_callB call_len (by rfl) T.b_len boot_len_ (pa_cons (pv 3) pa_nil)) pa_nil))))
      (pss_cons (ps_if (PW.pt (pw_or (pt_cmpR op_eq (pv 5) pe_int (nomark _)) (pw_or1 (pt_cmpR op_notIn_seq (pv 4) (pe_tup (pa_cons pe_int (pa_cons pe_int (pa_cons pe_int pa_nil)))) (by rfl)))))
          (pss_one (ps_ret (pe_cmpR op_eq (pe_callB (call_repr hG (hu64 hr)) (by rfl) T.b_repr boot_repr_ (pa_cons (pe_g c__law_told hG (hr.mono (by decide)) (by rfl) (pa_cons (pv 1) (pa_cons (pv 4) (pa_cons (pv 6) (pa_cons (pe_ix ix_list (pe_lst (pa_cons (pv 8) (pa_cons (pv 7) pa_nil))) (pe_op op_mod (pv 5) pe_int) (fun _ _ => rfl)) pa_nil))))) pa_nil)) (pe_callB (call_repr hG (hu64 hr)) (by rfl) T.b_repr boot_repr_ (pa_cons (pe_lst (pa_cons pe_str (pa_cons (pv 6) pa_nil))) pa_nil)) (nomark _)))) pss_nil)
      (pss_cons (ps_if (pt_cmpR op_eq (pv 5) pe_int (nomark _))
          (pss_one (ps_ret (pe_cmpR op_eq (pe_callB (call_repr hG (hu64 hr)) (by rfl) T.b_repr boot_repr_ (pa_cons (pe_g c__law_told hG (hr.mono (by decide)) (by rfl) (pa_cons (pv 1) (pa_cons (pv 4) (pa_cons (pv 8) (pa_cons (pv 7) pa_nil))))) pa_nil)) (pe_callB (call_repr hG (hu64 hr)) (by rfl) T.b_repr boot_repr_ (pa_cons (pe_lst (pa_cons pe_str (pa_cons (pv 7) pa_nil))) pa_nil)) (nomark _)))) pss_nil)
      (pss_one (ps_ret (pe_cmpR op_eq (pe_callB (call_repr hG (hu64 hr)) (by rfl) T.b_repr boot_repr_ (pa_cons (pe_g c__law_told hG (hr.mono (by decide)) (by rfl) (pa_cons (pv 1) (pa_cons (pv 4) (pa_cons (pv 6) (pa_cons (pv 7) pa_nil))))) pa_nil)) (pe_callB (call_repr hG (hu64 hr)) (by rfl) T.b_repr boot_repr_ (pa_cons (pe_lst (pa_cons pe_str (pa_cons (pv 6) pa_nil))) pa_nil)) (nomark _))))))))))), ?_⟩
    have hOl : (V.non :: ow.map num).length = ow.length + 1 := by rw [List.length_cons, List.length_map]
    refine ⟨_, rfl, _, rfl, _, _, rfl, rfl, (.inl ⟨by decide, by decide⟩), _, _, rfl, rfl, b, 9 + 2 * kind, rfl, hB, (by rcases hk with h | ⟨h, _⟩ <;> omega), (by rcases hk with h | ⟨h, _⟩ <;> omega), fun way H1 w0 w1' hB1 k1 => ?_⟩
    have hk9 : 9 ≤ way → C = CL := fun h9 => by
      rcases hk with h | ⟨_, h⟩
      · omega
      · exact h
    have hk10 : way ≤ 10 := by rcases hk with h | ⟨h, _⟩ <;> omega
    refine ⟨_, rfl, b, 3, rfl, hB1, by decide, by decide, fun wh H2 h0 h1 hB2 k2 => ?_⟩
    have k02 : Kp b H H2 := (kp_of k1).trans (kp_of k2)
    refine ⟨_, rfl, _, rfl, .ref a, _, rfl, .inl ⟨_, SqL.of (k02 _ _ nab hO), rfl⟩, b, ow.length, (by rw [hOl]; rfl), hB2, few, fun v1 d1 H3 t1 w1 hB3 k3 => ?_⟩
    have k03 := k02.trans k3
    refine ⟨_, rfl, _, rfl, .ref a, _, rfl, .inl ⟨_, SqL.of (k03 _ _ nab hO), rfl⟩, b, ow.length, (by rw [hOl]; rfl), hB3, few, fun v2 d2 H4 t2 w2 hB4 k4 => ?_⟩
    have k04 := k03.trans k4
    have t14 := t1.kp hB3 k4
    refine ⟨_, rfl, _, rfl, .ref a, _, rfl, .inl ⟨_, SqL.of (k04 _ _ nab hO), rfl⟩, b, ow.length + 1, (by rw [hOl]; rfl), hB4, by omega, by omega, fun g H5 hg hB5 k5 => ?_⟩
    have k05 := k04.trans k5
    have t15 := t14.kp hB4 k5
    have t25 := t2.kp hB4 k5
    have x5 : TK N H5 t C ow := x.kp fun c u hc z => k05 c u (fun e => nb (e ▸ hc)) z
    clear k1 k2 k3 k4 k5 k02 k03 k04 t1 t2 t14 hB1 hB2 hB3 hB4 hB x
    refine ⟨_, rfl, rfl, _, rfl, ite2 (fun hz => ?_) (fun hz => ?_)⟩
    · refine ⟨_, rfl, _, rfl, _, rfl, _, rfl, _, rfl, (by show 2 ≤ sizeLine; decide), fun l hl => ?_⟩
      have s6 := same_new (o := .lst [num g, v2]) hl
      have e6 : (upd H5 l (.lst [num g, v2])) l = some (.lst [num g, v2]) := upd_same
      generalize upd H5 l (.lst [num g, v2]) = H6 at *
      refine ⟨_, rfl, _, _, rfl, rfl, (by decide : (0 : Int) < 2), ?_⟩
      obtain ⟨u, hu, hat⟩ : ∃ u, (u = num g ∨ u = v2) ∧ atI [num g, v2] (wh % 2) = some u := by
        rcases (by omega : wh = 0 ∨ wh = 1 ∨ wh = 2) with rfl | rfl | rfl
        · exact ⟨_, .inl rfl, rfl⟩
        · exact ⟨_, .inr rfl, rfl⟩
        · exact ⟨_, .inl rfl, rfl⟩
      refine ⟨l, _, _, u, rfl, rfl, SqL.of e6, hat, ?_⟩
      have x6 := x5.same s6
      have hB6 := boxSame hB5 s6
      have k6 : ∀ c o, c ≠ b → H c = some o → H6 c = some o := fun c o hc z => s6 _ _ (k05 c o hc z)
      have t16 := t15.same s6
      refine ⟨t, C, ow, depths ow, way, v1, u, "make", v1, rfl, hC, x6.tr, fun H' s => .one (t16.same s).d1 w1 w0 hk10 hk9, fun p H7 np s7 hp => ?_⟩
      have th7 := (t16).same s7
      have ok7 := wdOk (.inl rfl) th7.ok
      refine ⟨_, _, rfl, .lst (SqL.of hp) (.cons (.dp (.str _)) (.cons th7.d1 .nil)), ok7.sh, Nat.le_trans ok7.ln (by decide), Nat.le_trans ok7.dp (by decide), ?_⟩
      refine ⟨_, rfl, (by show 2 ≤ sizeLine; decide), fun l2 hl2 => ?_⟩
      have s8 := same_new (o := .lst [.str "make", v1]) hl2
      have e8 : (upd H7 l2 (.lst [.str "make", v1])) l2 = some (.lst [.str "make", v1]) := upd_same
      generalize upd H7 l2 (.lst [.str "make", v1]) = H8 at *
      refine ⟨_, _, rfl, .lst (SqL.of e8) (.cons (.dp (.str _)) (.cons (th7.same s8).d1 .nil)), ok7.sh, Nat.le_trans ok7.ln (by decide), Nat.le_trans ok7.dp (by decide), ?_⟩
      refine ⟨rfl, ?_⟩
      rw [decide_eq_true rfl]
      have s68 := s7.trans s8
      exact q H8 (boxSame hB6 s68) fun c o hc z => s68 _ _ (k6 c o hc z)
    · have nz : wh ≠ 0 := fun e => hz (decide_eq_true (by rw [e]))
      refine ⟨_, rfl, (by show 3 ≤ sizeLine; decide), fun tp htp => ?_⟩
      have s9 := same_new (o := .tup [.int 6, .int 7, .int 8]) htp
      have e9 : (upd H5 tp (.tup [.int 6, .int 7, .int 8])) tp = some (.tup [.int 6, .int 7, .int 8]) := upd_same
      generalize upd H5 tp (.tup [.int 6, .int 7, .int 8]) = H9 at *
      refine ⟨tp, _, rfl, .inr (SqT.of e9), rfl, rfl, _, rfl, ?_⟩
      have x9 := x5.same s9
      have hB9 := boxSame hB5 s9
      have k09 : Kp b H H9 := fun c o hc z => s9 _ _ (k05 c o hc z)
      have t19 := t15.same s9
      have t29 := t25.same s9
      have ein : (if true = true then !inV (V.int way) [.int 6, .int 7, .int 8] else inV (V.int way) [.int 6, .int 7, .int 8]) = !(decide (way = 6) || decide (way = 7) || decide (way = 8)) := by
        simp [inV, eqV]
        rw [Bool.eq_iff_iff]
        simp
        omega
      rw [ein]
      refine ite2 (fun hn => ?_) (fun hn => ?_)
      · refine ⟨_, rfl, _, rfl, _, rfl, _, rfl, _, rfl, (by show 2 ≤ sizeLine; decide), fun l hl => ?_⟩
        have s6 := same_new (o := .lst [num g, v2]) hl
        have e6 : (upd H9 l (.lst [num g, v2])) l = some (.lst [num g, v2]) := upd_same
        generalize upd H9 l (.lst [num g, v2]) = H6 at *
        refine ⟨_, rfl, _, _, rfl, rfl, (by decide : (0 : Int) < 2), ?_⟩
        obtain ⟨u, hu, hat⟩ : ∃ u, (u = num g ∨ u = v2) ∧ atI [num g, v2] (wh % 2) = some u := by
          rcases (by omega : wh = 0 ∨ wh = 1 ∨ wh = 2) with rfl | rfl | rfl
          · exact ⟨_, .inl rfl, rfl⟩
          · exact ⟨_, .inr rfl, rfl⟩
          · exact ⟨_, .inl rfl, rfl⟩
        refine ⟨l, _, _, u, rfl, rfl, SqL.of e6, hat, ?_⟩
        have x6 := x9.same s6
        have hB6 := boxSame hB9 s6
        have k6 : ∀ c o, c ≠ b → H c = some o → H6 c = some o := fun c o hc z => s6 _ _ (k09 c o hc z)
        have t16 := t19.same s6
        refine ⟨t, C, ow, depths ow, way, v1, u, "make", v1, rfl, hC, x6.tr, fun H' s => .one (t16.same s).d1 w1 w0 hk10 hk9, fun p H7 np s7 hp => ?_⟩
        have th7 := (t16).same s7
        have ok7 := wdOk (.inl rfl) th7.ok
        refine ⟨_, _, rfl, .lst (SqL.of hp) (.cons (.dp (.str _)) (.cons th7.d1 .nil)), ok7.sh, Nat.le_trans ok7.ln (by decide), Nat.le_trans ok7.dp (by decide), ?_⟩
        refine ⟨_, rfl, (by show 2 ≤ sizeLine; decide), fun l2 hl2 => ?_⟩
        have s8 := same_new (o := .lst [.str "make", v1]) hl2
        have e8 : (upd H7 l2 (.lst [.str "make", v1])) l2 = some (.lst [.str "make", v1]) := upd_same
        generalize upd H7 l2 (.lst [.str "make", v1]) = H8 at *
        refine ⟨_, _, rfl, .lst (SqL.of e8) (.cons (.dp (.str _)) (.cons (th7.same s8).d1 .nil)), ok7.sh, Nat.le_trans ok7.ln (by decide), Nat.le_trans ok7.dp (by decide), ?_⟩
        refine ⟨rfl, ?_⟩
        rw [decide_eq_true rfl]
        have s68 := s7.trans s8
        exact q H8 (boxSame hB6 s68) fun c o hc z => s68 _ _ (k6 c o hc z)
      · have hw : way = 6 ∨ way = 7 ∨ way = 8 := by
          simp at hn
          omega
        refine ⟨_, rfl, rfl, _, rfl, ite2 (fun h1 => ?_) (fun h1 => ?_)⟩
        · refine ⟨_, rfl, _, rfl, _, rfl, _, rfl, t, C, ow, depths ow, way, num g, v2, "make", v2, rfl, hC, x9.tr, fun H' s => .two rfl (by omega) (t29.same s).d1 w2 hw, fun p H7 np s7 hp => ?_⟩
          have th7 := (t29).same s7
          have ok7 := wdOk (.inl rfl) th7.ok
          refine ⟨_, _, rfl, .lst (SqL.of hp) (.cons (.dp (.str _)) (.cons th7.d1 .nil)), ok7.sh, Nat.le_trans ok7.ln (by decide), Nat.le_trans ok7.dp (by decide), ?_⟩
          refine ⟨_, rfl, (by show 2 ≤ sizeLine; decide), fun l2 hl2 => ?_⟩
          have s8 := same_new (o := .lst [.str "make", v2]) hl2
          have e8 : (upd H7 l2 (.lst [.str "make", v2])) l2 = some (.lst [.str "make", v2]) := upd_same
          generalize upd H7 l2 (.lst [.str "make", v2]) = H8 at *
          refine ⟨_, _, rfl, .lst (SqL.of e8) (.cons (.dp (.str _)) (.cons (th7.same s8).d1 .nil)), ok7.sh, Nat.le_trans ok7.ln (by decide), Nat.le_trans ok7.dp (by decide), ?_⟩
          refine ⟨rfl, ?_⟩
          rw [decide_eq_true rfl]
          have s68 := s7.trans s8
          exact q H8 (boxSame hB9 s68) fun c o hc z => s68 _ _ (k09 c o hc z)
        · refine ⟨_, rfl, _, rfl, _, rfl, _, rfl, t, C, ow, depths ow, way, v1, v2, "make", v1, rfl, hC, x9.tr, fun H' s => .one (t19.same s).d1 w1 w0 hk10 hk9, fun p H7 np s7 hp => ?_⟩
          have th7 := (t19).same s7
          have ok7 := wdOk (.inl rfl) th7.ok
          refine ⟨_, _, rfl, .lst (SqL.of hp) (.cons (.dp (.str _)) (.cons th7.d1 .nil)), ok7.sh, Nat.le_trans ok7.ln (by decide), Nat.le_trans ok7.dp (by decide), ?_⟩
          refine ⟨_, rfl, (by show 2 ≤ sizeLine; decide), fun l2 hl2 => ?_⟩
          have s8 := same_new (o := .lst [.str "make", v1]) hl2
          have e8 : (upd H7 l2 (.lst [.str "make", v1])) l2 = some (.lst [.str "make", v1]) := upd_same
          generalize upd H7 l2 (.lst [.str "make", v1]) = H8 at *
          refine ⟨_, _, rfl, .lst (SqL.of e8) (.cons (.dp (.str _)) (.cons (th7.same s8).d1 .nil)), ok7.sh, Nat.le_trans ok7.ln (by decide), Nat.le_trans ok7.dp (by decide), ?_⟩
          refine ⟨rfl, ?_⟩
          rw [decide_eq_true rfl]
          have s68 := s7.trans s8
          exact q H8 (boxSame hB9 s68) fun c o hc z => s68 _ _ (k09 c o hc z)
end
end K10
namespace K10
open PySem PySem.Spec PyProof.Rows L2 Gd Gs Gx Ge
open C8 (clsBody Met pe_mt pe_mt0)
theorem cut_mem {xs : List V} {lo hi : Option Int} {v : V} (h : v ∈ cutV xs lo hi) : v ∈ xs := by
  unfold cutV at h
  exact List.mem_of_mem_drop (List.mem_of_mem_take h)
section
variable {P : Program} {w : World} {K : PySem.W.Frag} {mg : Str → Option Value} {base : Heap} {C CN fN CT fT CK fK CM CL CM0 : Addr}
def spSR (CM CL : Addr) : Sp := fun vs H Q _ => ∃ (N : Addr → Prop) (b t a C : Addr) (kind : Int) (ow : List Nat), vs = [.ref b, .ref t, .int kind, .ref a] ∧ BoxAt H b ∧ (kind = 0 ∨ kind = 1 ∧ C = CL) ∧ (C = CM ∨ C = CL) ∧ TK N H t C ow ∧ ¬ N b ∧ OwL H a ow ∧ Low ow ∧ ow.length ≤ 63 ∧ a ≠ b ∧
  ∀ H', BoxAt H' b → Kp b H H' → Q (.bl true) H'
theorem ok_sr (T : Txt K mg) (c__law_take : CalG P w K mg base 1 "_law_take" spTake) (c__law_pick : CalG P w K mg base 2 "_law_pick" spPick) (c__law_line : CalG P w K mg base 1 "_law_line" spLLine) (c__law_told : CalG P w K mg base 7 "_law_told" (spTold K CM CL))
    (D : DefAt K mg "_law_steps_right" s__law_steps_right ["_law_box_here", "_law_tree_here", "_law_kind", "_law_owners_here"]) : CalG P w K mg base 8 "_law_steps_right" (spSR CM CL) := by
  refine D.cal sc__law_steps_right (fun vs H Q E h => ?_) (fun f cdv A outer s H vs Q E hG hr h => ?_)
  · obtain ⟨N, b, t, a, C, kind, ow, rfl, _⟩ := h
    rfl
  · obtain ⟨N, b, t, a, C, kind, ow, rfl, hB, hk, hC, x, nb, hO, low, few, nab, q⟩ := h
    have hOl : (V.non :: ow.map num).length = ow.length + 1 := by rw [List.length_cons, List.length_map]
    refine ⟨_, (pss_cons (ps_set (i := 4) sc__law_steps_right.nd rfl (Or.inl rfl) (pe_g c__law_pick hG (hr.mono (by decide)) (by rfl) (pa_cons (pv 0) (pa_cons (pe_callB call_len (by rfl) T.b_len boot_len_ (pa_cons (pv 3) pa_nil)) pa_nil))))
      (pss_cons (ps_set (i := 5) sc__law_steps_right.nd rfl (Or.inl rfl) (pe_op op_sub (pe_callB call_len (by rfl) T.b_len boot_len_ (pa_cons (pe_g c__law_line hG (hr.mono (by decide)) (by rfl) (pa_cons (pv 3) (pa_cons (pv 4) pa_nil))) pa_nil)) pe_int))
      (pss_cons (ps_set (i := 6) sc__law_steps_right.nd rfl (Or.inl rfl) (pe_ix ix_list (pe_lst (pa_cons (pe_op op_add (pv 5) pe_int) (pa_cons (pe_un un_neg pe_int) (pa_cons pe_non (pa_cons pe_bl (pa_cons pe_str (pa_cons (pe_lst (pa_cons pe_int pa_nil)) (pa_cons (pe_op op_add (pv 5) pe_int) (pa_cons (pe_op op_pow pe_int pe_int) pa_nil))))))))) (pe_g c__law_take hG (hr.mono (by decide)) (by rfl) (pa_cons (pv 0) (pa_cons pe_int pa_nil))) (fun _ _ => rfl)))
      (pss_cons (ps_for PassesOwn.never rfl (pi_list (pe_slice sl_list (pe_lst (pa_cons pe_int (pa_cons pe_int pa_nil))) po_none (po_some (pe_op op_add pe_int (pv 2))))) (pg_name (i := 7) sc__law_steps_right.nd rfl (Or.inl rfl))
          (pss_one (ps_if (pt_cmpR op_ne (pe_callB (call_repr hG (hu64 hr)) (by rfl) T.b_repr boot_repr_ (pa_cons (pe_g c__law_told hG (hr.mono (by decide)) (by rfl) (pa_cons (pv 1) (pa_cons (pv 7) (pa_cons (pv 4) (pa_cons (pv 6) pa_nil))))) pa_nil)) (pe_callB (call_repr hG (hu64 hr)) (by rfl) T.b_repr boot_repr_ (pa_cons (pe_lst (pa_cons pe_str (pa_cons (pv 6) pa_nil))) pa_nil)) (nomark _))
              (pss_one (ps_ret pe_bl)) pss_nil)))
      (pss_one (ps_ret pe_bl)))))), ?_⟩
    refine ⟨_, rfl, _, rfl, .ref a, _, rfl, .inl ⟨_, SqL.of hO, rfl⟩, b, ow.length + 1, (by rw [hOl]; rfl), hB, by omega, by omega, fun g H1 hg hB1 k1 => ?_⟩
    have hO1 : OwL H1 a ow := k1 _ _ nab hO
    refine ⟨_, rfl, _, rfl, a, ow, g, rfl, hO1, low, few, by omega, fun pl H2 npl s2 hpl => ?_⟩
    refine ⟨.ref pl, _, rfl, .inl ⟨_, SqL.of hpl, rfl⟩, _, _, rfl, rfl, ?_⟩
    have hll := line_le low g
    have hB2 := boxSame hB1 s2
    have k02 : Kp b H H2 := fun c o hc z => s2 _ _ (k1 c o hc z)
    have hpos := line_pos low g
    have hll2 := line_len low g
    have hdep : ((((line ow g).map num).length : Nat) : Int) - 1 = (dep ow g : Nat) := by
      rw [List.length_map]
      unfold dep
      omega
    have hdl : dep ow g ≤ 63 := by
      unfold dep
      omega
    rw [show ((fun (i j : Int) => V.int (i - j)) ((((line ow g).map num).length : Nat) : Int) 1) = V.int ((dep ow g : Nat) : Int) from by
      show V.int _ = V.int _
      rw [hdep]]
    refine ⟨_, rfl, _, _, rfl, rfl, _, rfl, (by show 1 ≤ sizeLine; decide), fun p1 h1 => ⟨_, rfl, _, _, rfl, rfl, _, _, rfl, rfl, ⟨by decide, by decide, by decide⟩, (by show 8 ≤ sizeLine; decide), fun l hl => ?_⟩⟩
    have s3 := same_new (o := .lst [.int 0]) h1
    have e3 : (upd H2 p1 (.lst [.int 0])) p1 = some (.lst [.int 0]) := upd_same
    generalize upd H2 p1 (.lst [.int 0]) = H3 at *
    generalize hxs : ([.int (((dep ow g : Nat) : Int) + 1), .int (-1), .non, .bl true, .str "1", .ref p1, .int (((dep ow g : Nat) : Int) + 64), .int (10 ^ (39 : Int).toNat)] : List V) = xs
    have hxl : xs.length = 8 := by rw [← hxs]; rfl
    have s4 := same_new (o := .lst xs) hl
    have e4 : (upd H3 l (.lst xs)) l = some (.lst xs) := upd_same
    have big : (1000 : Int) < 10 ^ (39 : Int).toNat := by decide
    have big2 : (10 : Int) ^ (39 : Int).toNat < 10 ^ 40 := by decide
    have nlo : -(10 : Int) ^ 40 < -1 := by decide
    have wi : ∀ i : Int, (i < 0 ∨ ((dep ow g : Nat) : Int) < i) → wholeD (.int i) 0 (dep ow g : Nat) = false := fun i hi => by
      have e : wholeD (.int i) 0 (dep ow g : Nat) = (decide (0 ≤ i) && decide (i ≤ (dep ow g : Nat))) := rfl
      rw [e]
      rcases hi with hi | hi
      · rw [decide_eq_false (by omega)]
        rfl
      · rw [decide_eq_false (by omega : ¬ i ≤ (dep ow g : Nat)), Bool.and_false]
    have hall : ∀ v, v ∈ xs → ∃ d, Th H3 v d ∧ wholeD d 0 (dep ow g : Nat) = false := fun v hv => by
      rw [← hxs] at hv
      simp only [List.mem_cons, List.not_mem_nil, or_false] at hv
      rcases hv with rfl | rfl | rfl | rfl | rfl | rfl | rfl | rfl
      · exact ⟨_, .int _ (by omega) (by omega), wi _ (.inr (by omega))⟩
      · exact ⟨_, .int _ (by omega) (by omega), wi _ (.inl (by omega))⟩
      · exact ⟨_, .non, rfl⟩
      · exact ⟨_, .bl _, rfl⟩
      · exact ⟨_, .str _ (.inr (.inr rfl)), rfl⟩
      · exact ⟨_, .l0 e3, rfl⟩
      · exact ⟨_, .int _ (by omega) (by omega), wi _ (.inr (by omega))⟩
      · exact ⟨_, .int _ (by omega) (by omega), wi _ (.inr (by omega))⟩
    have hB4 : BoxAt (upd H3 l (.lst xs)) b := boxSame hB2 (s3.trans s4)
    have lb : l ≠ b := (boxSame hB2 s3).ne hl
    generalize upd H3 l (.lst xs) = H4 at *
    have k04 : Kp b H H4 := fun c o hc z => (s3.trans s4) _ _ (k02 c o hc z)
    refine ⟨_, rfl, b, 8, rfl, hB4, by decide, by decide, fun di H5 d0 d1 hB5 k5 => ?_⟩
    obtain ⟨v, hv, hat⟩ := pickL xs d0 (by rw [hxl]; exact d1)
    obtain ⟨d, th, wd⟩ := hall v hv
    refine ⟨l, _, _, v, rfl, rfl, SqL.of ((k5 _ lb).trans e4), hat, ?_⟩
    have th5 := (th.same s4).kp hB4 (kp_of k5)
    have k05 : Kp b H H5 := k04.trans (kp_of k5)
    have x5 : TK N H5 t C ow := x.kp fun c u hc z => k05 c u (fun e => nb (e ▸ hc)) z
    clear th hall e4 e3 k04 k02 s3 s4 h1 hl hB4 hB2 hB1 k1 s2 hpl npl hO1
    refine ⟨(by show 2 ≤ sizeLine; decide), fun p6 hp6 => ?_⟩
    have s6 := same_new (o := .lst [.int 5, .int 10]) hp6
    have e6 : (upd H5 p6 (.lst [.int 5, .int 10])) p6 = some (.lst [.int 5, .int 10]) := upd_same
    generalize upd H5 p6 (.lst [.int 5, .int 10]) = H6 at *
    refine ⟨_, rfl, _, _, rfl, rfl, _, rfl, p6, _, rfl, SqL.of e6, fun p7 hp7 => ?_⟩
    generalize hcs : cutV [V.int 5, V.int 10] none (some (1 + kind)) = cs
    have hways : ∀ u, u ∈ cs → ∃ wy : Int, u = .int wy ∧ (wy = 5 ∨ wy = 10 ∧ C = CL) := fun u hu => by
      rcases hk with rfl | ⟨rfl, e⟩
      · have e1 : cutV [V.int 5, V.int 10] none (some (1 + 0)) = [V.int 5] := by rfl
        rw [← hcs, e1] at hu
        exact ⟨5, List.mem_singleton.mp hu, .inl rfl⟩
      · rw [← hcs] at hu
        have := cut_mem hu
        simp only [List.mem_cons, List.not_mem_nil, or_false] at this
        rcases this with rfl | rfl
        · exact ⟨5, rfl, .inl rfl⟩
        · exact ⟨10, rfl, .inr ⟨rfl, e⟩⟩
    have s7 := same_new (o := .lst cs) hp7
    have e7 : (upd H6 p7 (.lst cs)) p7 = some (.lst cs) := upd_same
    generalize upd H6 p7 (.lst cs) = H7 at *
    have s57 := s6.trans s7
    refine ⟨p7, rfl, ⟨_, SqL.of e7⟩, ?_⟩
    refine for_list (xs := cs) (fun k σ H' => Same H5 H' ∧ H' p7 = some (.lst cs) ∧ ∃ y7 : Option V, σ = [some (.ref b), some (.ref t), some (.int kind), some (.ref a), some (num g), some (.int ((dep ow g : Nat) : Int)), some v, y7])
      ⟨s57, e7, _, rfl⟩ (fun k σ H' _ hP => SqL.of hP.2.1) (fun k u σ H8 hu hP => ?_) (fun σ H8 hP => ?_)
    · obtain ⟨s8, e8, y7, rfl⟩ := hP
      obtain ⟨wy, rfl, hwy⟩ := hways u (List.mem_of_getElem? hu)
      have th8 := th5.same s8
      refine ⟨_, rfl, _, rfl, _, rfl, _, rfl, t, C, ow, depths ow, wy, num g, v, "number", v, rfl, hC, (x5.same s8).tr, fun H' s => .steps rfl (by omega) (th8.same s).d1 wd hwy, fun p H9 np s9 hp => ?_⟩
      have th9 := th8.same s9
      have ok9 := wdOk (.inr rfl) th9.ok
      refine ⟨_, _, rfl, .lst (SqL.of hp) (.cons (.dp (.str _)) (.cons th9.d1 .nil)), ok9.sh, Nat.le_trans ok9.ln (by decide), Nat.le_trans ok9.dp (by decide), ?_⟩
      refine ⟨_, rfl, (by show 2 ≤ sizeLine; decide), fun l2 hl2 => ?_⟩
      have s10 := same_new (o := .lst [.str "number", v]) hl2
      have e10 : (upd H9 l2 (.lst [.str "number", v])) l2 = some (.lst [.str "number", v]) := upd_same
      generalize upd H9 l2 (.lst [.str "number", v]) = H10 at *
      refine ⟨_, _, rfl, .lst (SqL.of e10) (.cons (.dp (.str _)) (.cons (th9.same s10).d1 .nil)), ok9.sh, Nat.le_trans ok9.ln (by decide), Nat.le_trans ok9.dp (by decide), ?_⟩
      refine ⟨rfl, _, rfl, ifSame ?_⟩
      exact ⟨s8.trans (s9.trans s10), s10 _ _ (s9 _ _ e8), _, rfl⟩
    · obtain ⟨s8, e8, y7, rfl⟩ := hP
      exact q H8 (boxSame hB5 s8) fun c o hc z => s8 _ _ (k05 c o hc z)
end
end K10
namespace K10
open PySem PySem.Spec PyProof.Rows L2 Gd Gs Gx Ge
open C8 (clsBody Met pe_mt pe_mt0)
theorem numsD {K : PySem.W.Frag} {H : Hp} : ∀ xs : List Nat, DpAll K H (xs.map num) (xs.map fun n => PyData.int (n : Nat))
  | [] => .nil
  | x :: xs => .cons (.int _) (numsD xs)
theorem lay_nums : ∀ xs : List Nat, PyData.canLayAll0 (xs.map fun n => PyData.int (n : Nat)) = true
  | [] => by simp [PyData.canLayAll0]
  | x :: xs => by simp [PyData.canLayAll0, PyData.canLay0, lay_nums xs]
theorem dep_nums : ∀ xs : List Nat, PyData.depthAll (xs.map fun n => PyData.int (n : Nat)) = 0
  | [] => by simp [PyData.depthAll]
  | x :: xs => by simp [PyData.depthAll, PyData.depth, dep_nums xs]
theorem can_nums (xs : List Nat) : PyData.canLay0 (.list (xs.map fun n => PyData.int (n : Nat))) = true := by
  simp only [PyData.canLay0]
  exact lay_nums xs
theorem sh_nums (xs : List Nat) : SeqAt.shaped (.list (xs.map fun n => PyData.int (n : Nat))) = true := by
  unfold SeqAt.shaped
  rw [can_nums]
  simp [PyData.depth, dep_nums]
theorem can_wm : PyData.canLay0 (.list [.str "many", .int 65]) = true := by decide +kernel
theorem sh_wm : SeqAt.shaped (.list [.str "many", .int 65]) = true := by decide +kernel
theorem or_meth {CM CL C : Addr} (hC : C = CM ∨ C = CL) {m : Str} {sp : Addr → Sp} {ta : TE} {g : TA} {σ : L2.St} {H : Hp} {Q : VK} (h : tMeth C m (sp C) [] C8.E0 ta g σ H Q) : tMeth CM m (sp CM) [] C8.E0 ta g σ H Q ∨ tMeth CL m (sp CL) [] C8.E0 ta g σ H Q := by
  rcases hC with rfl | rfl
  · exact .inl h
  · exact .inr h
theorem own_se (ow : List Nat) (i : Nat) : scal (ownV ow i) (ownV ow i) = true := by
  unfold ownV
  split
  · rfl
  · rfl
section
variable {P : Program} {w : World} {K : PySem.W.Frag} {mg : Str → Option Value} {base : Heap} {C CN fN CT fT CK fK CM CL CM0 : Addr}
def spLaw (K : PySem.W.Frag) : Sp := fun vs H Q _ => ∃ (a : Addr) (ns : List Int), vs = [.ref a] ∧ SqL K H a (ns.map V.int) ∧ ns.length ≤ 63 ∧ ∀ H', Q (.bl true) H'
theorem ok_law (T : Txt K mg) {f : Addr} {fd : FuncData} (F : Fun K "law" "law" s_law f fd) (oM : Met P w K mg base 3 CM "own" (spOwn CM) []) (oL : Met P w K mg base 3 CL "own" (spOwn CL) []) (lM : Met P w K mg base 3 CM "line" (spLine CM) []) (lL : Met P w K mg base 3 CL "line" (spLine CL) []) (nM : Met P w K mg base 1 CM "many" (spMany CM) []) (nL : Met P w K mg base 1 CL "many" (spMany CL) [])
    (c__law_cell : CalG P w K mg base 1 "_law_cell" (spCell K)) (c__law_box : CalG P w K mg base 1 "_law_box" spBox) (c__law_take : CalG P w K mg base 1 "_law_take" spTake) (c__law_owners : CalG P w K mg base 3 "_law_owners" (spOwners K)) (c__law_built : CalG P w K mg base 5 "_law_built" (spBuilt CM CL))
    (c__law_line : CalG P w K mg base 1 "_law_line" spLLine) (c__law_told : CalG P w K mg base 7 "_law_told" (spTold K CM CL)) (c__law_right : CalG P w K mg base 8 "_law_right" (spRight CM CL)) (c__law_steps_right : CalG P w K mg base 8 "_law_steps_right" (spSR CM CL)) : FnG P w K mg base CX0 9 f fd ["_law_script"] (spLaw K) := by
  refine okG F sc_law (fun vs H Q E h => ?_) (fun cdv A outer s H vs Q E hG hr h => ?_)
  · obtain ⟨a, ns, rfl, _⟩ := h
    rfl
  · obtain ⟨a, ns, rfl, hS, hl, q⟩ := h
    refine ⟨_, (pss_cons (ps_set (i := 1) sc_law.nd rfl (Or.inl rfl) (pe_g c__law_box hG (hr.mono (by decide)) (by rfl) (pa_cons (pe_g c__law_cell hG (hr.mono (by decide)) (by rfl) (pa_cons (pv 0) (pa_cons pe_int pa_nil))) pa_nil)))
      (pss_cons (ps_set (i := 2) sc_law.nd rfl (Or.inl rfl) (pe_g c__law_take hG (hr.mono (by decide)) (by rfl) (pa_cons (pv 1) (pa_cons pe_int pa_nil))))
      (pss_cons (ps_set (i := 3) sc_law.nd rfl (Or.inl rfl) (pe_g c__law_owners hG (hr.mono (by decide)) (by rfl) (pa_cons (pv 0) (pa_cons (pe_ix ix_list (pe_lst (pa_cons pe_int (pa_cons pe_int (pa_cons pe_int (pa_cons pe_int pa_nil))))) (pe_g c__law_take hG (hr.mono (by decide)) (by rfl) (pa_cons (pv 1) (pa_cons pe_int pa_nil))) (fun _ _ => rfl)) pa_nil))))
      (pss_cons (ps_set (i := 4) sc_law.nd rfl (Or.inl rfl) (pe_g c__law_built hG (hr.mono (by decide)) (by rfl) (pa_cons (pv 2) (pa_cons (pv 3) pa_nil))))
      (pss_cons (ps_for PassesOwn.never rfl (pi_range1 rfl T.b_range (pa_cons pe_int pa_nil)) (pg_name (i := 5) sc_law.nd rfl (Or.inl rfl))
          (pss_cons (ps_set (i := 1) sc_law.nd rfl (Or.inl rfl) (pe_g c__law_box hG (hr.mono (by decide)) (by rfl) (pa_cons (pe_op op_add (pe_g c__law_cell hG (hr.mono (by decide)) (by rfl) (pa_cons (pv 0) (pa_cons (pv 5) pa_nil))) (pe_op op_mul pe_int (pv 5))) pa_nil)))
          (pss_one (ps_if (PW.pt (pw_or (pt_not (pt_val (pe_g c__law_right hG (hr.mono (by decide)) (by rfl) (pa_cons (pv 1) (pa_cons (pv 4) (pa_cons (pv 2) (pa_cons (pv 3) pa_nil))))))) (pw_or1 (pt_not (pt_val (pe_g c__law_steps_right hG (hr.mono (by decide)) (by rfl) (pa_cons (pv 1) (pa_cons (pv 4) (pa_cons (pv 2) (pa_cons (pv 3) pa_nil))))))))))
              (pss_one (ps_ret pe_bl)) pss_nil))))
      (pss_cons (ps_if (PW.pt (pw_and (pt_cmpR op_eq (pe_callB call_len (by rfl) T.b_len boot_len_ (pa_cons (pv 3) pa_nil)) pe_int (nomark _)) (pw_and1 (pt_cmpR (op_neD (hu64 hr)) (pe_g c__law_told hG (hr.mono (by decide)) (by rfl) (pa_cons (pv 4) (pa_cons pe_int (pa_cons pe_int (pa_cons pe_int pa_nil))))) (pe_lst (pa_cons pe_str (pa_cons pe_int pa_nil))) (nomark _)))))
          (pss_one (ps_ret pe_bl)) pss_nil)
      (pss_cons (ps_for PassesOwn.never rfl (pi_range1 rfl T.b_range (pa_cons (pe_callB call_len (by rfl) T.b_len boot_len_ (pa_cons (pv 3) pa_nil)) pa_nil)) (pg_name (i := 6) sc_law.nd rfl (Or.inl rfl))
          (pss_one (ps_if (PW.pt (pw_or (pt_cmpR op_ne (pe_or (pe_mt oM hr (by decide) (pv 4) (pa_cons (pv 6) pa_nil)) (pe_mt oL hr (by decide) (pv 4) (pa_cons (pv 6) pa_nil))) (pe_ix ix_list (pv 3) (pv 6) (fun _ _ => rfl)) (nomark _)) (pw_or1 (pt_cmpR (op_neD (hu64 hr)) (pe_or (pe_mt lM hr (by decide) (pv 4) (pa_cons (pv 6) pa_nil)) (pe_mt lL hr (by decide) (pv 4) (pa_cons (pv 6) pa_nil))) (pe_g c__law_line hG (hr.mono (by decide)) (by rfl) (pa_cons (pv 3) (pa_cons (pv 6) pa_nil))) (nomark _)))))
              (pss_one (ps_ret pe_bl)) pss_nil)))
      (pss_one (ps_ret (pe_cmpR op_eq (pe_or (pe_mt0 nM hr (by decide) (pv 4)) (pe_mt0 nL hr (by decide) (pv 4))) (pe_callB call_len (by rfl) T.b_len boot_len_ (pa_cons (pv 3) pa_nil)) (nomark _))))))))))), ?_⟩
    refine ⟨_, rfl, a, ns, 0, rfl, hS, hl, by decide, fun n => ⟨n, rfl, fun b H1 hb hB1 k1 => ?_⟩⟩
    have s1 : Same H H1 := fun c o z => (k1 c (ne_of_none z hb)).trans z
    refine ⟨_, rfl, b, 2, rfl, hB1, by decide, by decide, fun kind H2 g0 g1 hB2 k2 => ?_⟩
    have s2 : Same H H2 := fun c o z => (k2 c (ne_of_none z hb)).trans (s1 _ _ z)
    refine ⟨_, rfl, (by show 4 ≤ sizeLine; decide), fun l0 hl0 => ?_⟩
    have s3 := same_new (o := .lst [.int 1, .int 64, .int 64, .int 20]) hl0
    have e3 : (upd H2 l0 (.lst [.int 1, .int 64, .int 64, .int 20])) l0 = some (.lst [.int 1, .int 64, .int 64, .int 20]) := upd_same
    have hB3 := boxSame hB2 s3
    have lb := hB2.ne hl0
    generalize upd H2 l0 (.lst [.int 1, .int 64, .int 64, .int 20]) = H3 at *
    refine ⟨_, rfl, b, 4, rfl, hB3, by decide, by decide, fun di H4 g2 g3 hB4 k4 => ?_⟩
    obtain ⟨v, hv, hat⟩ := pickL [.int 1, .int 64, .int 64, .int 20] g2 (by show di < ((4 : Nat) : Int); omega)
    obtain ⟨most, rfl, hmost⟩ : ∃ m : Int, v = .int m ∧ m ≤ 64 := by
      simp only [List.mem_cons, List.not_mem_nil, or_false] at hv
      rcases hv with rfl | rfl | rfl | rfl
      · exact ⟨_, rfl, by decide⟩
      · exact ⟨_, rfl, by decide⟩
      · exact ⟨_, rfl, by decide⟩
      · exact ⟨_, rfl, by decide⟩
    refine ⟨l0, _, di, _, rfl, rfl, SqL.of ((k4 _ lb).trans e3), hat, ?_⟩
    have s4 : Same H H4 := fun c o z => (k4 c (ne_of_none z hb)).trans (s3 _ _ (s2 _ _ z))
    refine ⟨a, most, ns, rfl, hmost, s4.seq hS, hl, fun ao H5 ow np s5 hO low few => ?_⟩
    refine ⟨_, rfl, _, rfl, kind, ao, ow, rfl, hO, low, few, fun t H6 N rk fr nt s6 => ?_⟩
    have hO6 : OwL H6 ao ow := s6 _ _ hO
    have s06 : Same H H6 := s4.trans (s5.trans s6)
    obtain ⟨C, hC, hCk, x0⟩ := TK.of rk
    have hk : kind = 0 ∨ kind = 1 ∧ C = CL := by
      rcases (by omega : kind = 0 ∨ kind = 1) with h | h
      · exact .inl h
      · exact .inr ⟨h, hCk h⟩
    have x := x0.cut
    generalize hM : (fun c => (N c ∨ c = t) ∧ H6 c ≠ none) = M at x
    have hMa : ∀ c, M c → H6 c ≠ none := fun c h => by
      rw [← hM] at h
      exact h.2
    clear hM x0 rk fr nt s5 s4 s3 s2 s1 k1 k2 k4 e3 hB1 hB2 hB3 hB4 hO hCk np s6 hl0 lb hat hv
    refine ⟨_, rfl, by decide, by decide, ?_⟩
    refine for_range (lo := 0) (fun k σ H' => Same H6 H' ∧ ∃ y1 y5 y6 : Option V, σ = [some (.ref a), y1, some (.int kind), some (.ref ao), some (.ref t), y5, y6])
      ⟨fun _ _ z => z, _, _, _, rfl⟩ (fun k σ H7 hk40 hP => ?_) (fun σ H7 hP => ?_)
    · obtain ⟨s7, y1, y5, y6, rfl⟩ := hP
      refine ⟨_, rfl, _, rfl, a, ns, _, rfl, (s06.trans s7).seq hS, hl, by omega, fun n2 => ?_⟩
      refine ⟨_, rfl, _, _, rfl, rfl, (.inl ⟨by decide, by decide⟩), _, _, rfl, rfl, _, rfl, fun b H8 hb hB8 k8 => ?_⟩
      have s8 : Same H7 H8 := fun c o z => (k8 c (ne_of_none z hb)).trans z
      have s68 := s7.trans s8
      have nb : ¬ M b := fun h => hMa b h (none_of s7 hb)
      have nab : ao ≠ b := ne_of_none (s7 _ _ hO6) hb
      have x8 := x.same s68
      have hOl : (V.non :: ow.map num).length = ow.length + 1 := by rw [List.length_cons, List.length_map]
      refine ⟨_, rfl, _, rfl, _, rfl, _, rfl, M, b, t, ao, C, kind, ow, rfl, hB8, hk, hC, x8, nb, s68 _ _ hO6, few, nab, fun H9 hB9 k9 => ⟨_, rfl, iteF ?_⟩⟩
      have x9 : TK M H9 t C ow := x8.kp fun c u hc z => k9 c u (fun e => nb (e ▸ hc)) z
      refine ⟨_, rfl, _, rfl, _, rfl, _, rfl, M, b, t, ao, C, kind, ow, rfl, hB9, hk, hC, x9, nb, k9 _ _ nab (s68 _ _ hO6), low, few, nab, fun H10 hB10 k10 => ⟨_, rfl, iteF ?_⟩⟩
      refine ⟨fun c o z => ?_, _, _, _, rfl⟩
      have nc : c ≠ b := ne_of_none (s7 _ _ z) hb
      exact k10 c o nc (k9 c o nc (s68 _ _ z))
    · obtain ⟨s7, y1, y5, y6, rfl⟩ := hP
      have hOl : (V.non :: ow.map num).length = ow.length + 1 := by rw [List.length_cons, List.length_map]
      have hO7 := s7 _ _ hO6
      have x7 := x.same s7
      refine ⟨_, rfl, .ref ao, _, rfl, .inl ⟨_, SqL.of hO7, rfl⟩, rfl, _, rfl, ite2 (fun h64 => ?_) (fun h64 => ?_)⟩
      focus
        have h63 : ow.length = 63 := by
          have := V.int.inj (of_decide_eq_true h64)
          rw [hOl] at this
          omega
        refine ⟨_, rfl, t, C, ow, depths ow, 0, .int 5, .int 0, "many", .int 65, rfl, hC, x7.tr, fun H' s => .full (i := 5) rfl (by omega) h63 rfl, fun p HA np sA hp => ?_⟩
        refine ⟨(by show 2 ≤ sizeLine; decide), fun q2 hq2 => ?_⟩
        have sB := same_new (o := .lst [.str "many", .int 65]) hq2
        have eB : (upd HA q2 (.lst [.str "many", .int 65])) q2 = some (.lst [.str "many", .int 65]) := upd_same
        generalize upd HA q2 (.lst [.str "many", .int 65]) = H8 at *
        refine ⟨.list [.str "many", .int 65], .list [.str "many", .int 65], .lst (SqL.of (sB _ _ hp)) (.cons (.str _) (.cons (.int _) .nil)), .lst (SqL.of eB) (.cons (.str _) (.cons (.int _) .nil)), sh_wm, sh_wm, _, rfl, ?_⟩
        rw [PySem.SeqAt.eqv_refl _ can_wm]
        refine iteF ?_
        have x8 := x7.same (sA.trans sB)
        have hO8 : OwL H8 ao ow := (sA.trans sB) _ _ hO7
        clear x7 hO7 sA sB eB hp
      rotate_left
      focus
        have x8 := x7
        have hO8 : OwL H7 ao ow := hO7
        generalize H7 = H8 at *
      all_goals
        refine ⟨_, rfl, .ref ao, _, rfl, .inl ⟨_, SqL.of hO8, rfl⟩, _, rfl, (by rw [hOl]; omega), (by rw [hOl]; omega), ?_⟩
        refine for_range (lo := 0) (fun k σ H' => Same H8 H' ∧ ∃ y1 y5 y6 : Option V, σ = [some (.ref a), y1, some (.int kind), some (.ref ao), some (.ref t), y5, y6])
          ⟨fun _ _ z => z, _, _, _, rfl⟩ (fun i σ H9 hi hP => ?_) (fun σ H9 hP => ?_)
        · obtain ⟨s9, y1, y5, y6, rfl⟩ := hP
          have hi2 : i ≤ ow.length := by
            rw [hOl] at hi
            omega
          have x9 := x8.same s9
          have hO9 : OwL H9 ao ow := s9 _ _ hO8
          obtain ⟨dx, o, de, n, fs, e1, l1, l2, l3, nl, e2, e3, lf⟩ := x9.tr.ex
          have ei : (V.int (0 + ((i : Nat) : Int))) = num i := by
            show V.int _ = V.int _
            congr 1
            omega
          rw [ei]
          refine or_meth (m := "own") (sp := spOwn) hC ?_
          refine ⟨_, rfl, t, dx, fs, rfl, e1, nl _ (by decide), _, rfl, t, ow, depths ow, i, rfl, x9.tr, hi2, ?_⟩
          refine ⟨_, rfl, _, rfl, ao, _, _, ownV ow i, rfl, rfl, SqL.of hO9, at_any hi2, ?_⟩
          refine ⟨own_se ow i, _, rfl, ?_⟩
          rw [decide_eq_true rfl]
          refine iteF ?_
          refine or_meth (m := "line") (sp := spLine) hC ?_
          refine ⟨_, rfl, t, dx, fs, rfl, e1, nl _ (by decide), _, rfl, t, ow, depths ow, i, rfl, x9.tr, hi2, fun p1 H10 np1 s10 hp1 => ?_⟩
          refine ⟨_, rfl, _, rfl, ao, ow, i, rfl, s10 _ _ hO9, low, few, hi2, fun p2 H11 np2 s11 hp2 => ?_⟩
          refine ⟨_, _, .lst (SqL.of (s11 _ _ hp1)) (numsD _), .lst (SqL.of hp2) (numsD _), sh_nums _, sh_nums _, _, rfl, ?_⟩
          rw [PySem.SeqAt.eqv_refl _ (can_nums _)]
          refine iteF ?_
          exact ⟨s9.trans (s10.trans s11), _, _, _, rfl⟩
        · obtain ⟨s9, y1, y5, y6, rfl⟩ := hP
          have x9 := x8.same s9
          have hO9 : OwL H9 ao ow := s9 _ _ hO8
          obtain ⟨dx, o, de, n, fs, e1, l1, l2, l3, nl, e2, e3, lf⟩ := x9.tr.ex
          refine or_meth (m := "many") (sp := spMany) hC ?_
          refine ⟨_, rfl, t, dx, fs, rfl, e1, nl _ (by decide), t, ow, depths ow, rfl, x9.tr, ?_⟩
          refine ⟨_, rfl, .ref ao, _, rfl, .inl ⟨_, SqL.of hO9, rfl⟩, rfl, ?_⟩
          rw [show decide (V.int ((ow.length + 1 : Nat) : Int) = V.int (((V.non :: ow.map num).length : Nat) : Int)) = true from decide_eq_true (by rw [hOl])]
          exact q H9
end
end K10
set_option maxHeartbeats 0
namespace K10
open PySem PySem.Spec PyProof.Rows L2 Gd Gs Ge
open C8 (clsBody Met)
theorem exm_above {K : PySem.W.Frag} {S M : Addr} (up : PySem.W.subIn K (.ref S) (.ref M) = some true) (isC : PySem.W.isClsIn K M = true) (meta_ : PySem.W.typeIn K (.ref M) = some (.type "type"))
    (exc : PySem.W.subIn K (.ref M) (.type "BaseException") = some true) : PySem.W.exmOne K (.ref S) (.ref M) = some true := by
  unfold PySem.W.isClsIn at isC
  simp [PySem.W.exmOne, PySem.W.kitCls, exc, meta_, isC, up]
theorem kit_self {K : PySem.W.Frag} {S : Addr} : PySem.W.kitOne K (.ref S) (.ref S) = some true := by
  simp [PySem.W.kitOne]
theorem exm_no {K : PySem.W.Frag} {A B : Addr} (s : PySem.W.subIn K (.ref A) (.ref B) = some false) (isC : PySem.W.isClsIn K B = true) (meta_ : PySem.W.typeIn K (.ref B) = some (.type "type"))
    (exc : PySem.W.subIn K (.ref B) (.type "BaseException") = some true) : PySem.W.exmOne K (.ref A) (.ref B) = some false := by
  unfold PySem.W.isClsIn at isC
  simp [PySem.W.exmOne, PySem.W.kitCls, exc, meta_, isC, s]
theorem exm_self {K : PySem.W.Frag} {S : Addr} (isC : PySem.W.isClsIn K S = true) (meta_ : PySem.W.typeIn K (.ref S) = some (.type "type"))
    (exc : PySem.W.subIn K (.ref S) (.type "BaseException") = some true) (m : PySem.W.subIn K (.ref S) (.ref S) = some true) : PySem.W.exmOne K (.ref S) (.ref S) = some true := by
  unfold PySem.W.isClsIn at isC
  simp [PySem.W.exmOne, PySem.W.kitCls, exc, meta_, isC, m]
theorem all_mk {l : PySem.W.OpenLaw} {w : World} {K : PySem.W.Frag} {h : Heap} {mg : Str → Option Value} {fa : Addr} (X : K.In h) (G : h.Ns mainGlobals mg) (hfa : mg "law" = some (.ref fa))
    {f0 : Addr}
    {od0 an0 : Option Addr}
    {sl0 : Array (Option Value)}
    {oc0 kV0 dc0 pm0 cd0 ct0 : Value}
    {f1 : Addr}
    {od1 an1 : Option Addr}
    {sl1 : Array (Option Value)}
    {oc1 kV1 dc1 pm1 cd1 ct1 : Value}
    {f2 : Addr}
    {od2 an2 : Option Addr}
    {sl2 : Array (Option Value)}
    {oc2 kV2 dc2 pm2 cd2 ct2 : Value}
    {f3 : Addr}
    {od3 an3 : Option Addr}
    {sl3 : Array (Option Value)}
    {oc3 kV3 dc3 pm3 cd3 ct3 : Value}
    {f4 : Addr}
    {od4 an4 : Option Addr}
    {sl4 : Array (Option Value)}
    {oc4 kV4 dc4 pm4 cd4 ct4 : Value}
    {f5 : Addr}
    {od5 an5 : Option Addr}
    {sl5 : Array (Option Value)}
    {oc5 kV5 dc5 pm5 cd5 ct5 : Value}
    {f6 : Addr}
    {od6 an6 : Option Addr}
    {sl6 : Array (Option Value)}
    {oc6 kV6 dc6 pm6 cd6 ct6 : Value}
    {f7 : Addr}
    {od7 an7 : Option Addr}
    {sl7 : Array (Option Value)}
    {oc7 kV7 dc7 pm7 cd7 ct7 : Value}
    {f8 : Addr}
    {od8 an8 : Option Addr}
    {sl8 : Array (Option Value)}
    {oc8 kV8 dc8 pm8 cd8 ct8 : Value}
    {f9 : Addr}
    {od9 an9 : Option Addr}
    {sl9 : Array (Option Value)}
    {oc9 kV9 dc9 pm9 cd9 ct9 : Value}
    {f10 : Addr}
    {od10 an10 : Option Addr}
    {sl10 : Array (Option Value)}
    {oc10 kV10 dc10 pm10 cd10 ct10 : Value}
    {f11 : Addr}
    {od11 an11 : Option Addr}
    {sl11 : Array (Option Value)}
    {oc11 kV11 dc11 pm11 cd11 ct11 : Value}
    {f12 : Addr}
    {od12 an12 : Option Addr}
    {sl12 : Array (Option Value)}
    {oc12 kV12 dc12 pm12 cd12 ct12 : Value}
    {f13 : Addr}
    {od13 an13 : Option Addr}
    {sl13 : Array (Option Value)}
    {oc13 kV13 dc13 pm13 cd13 ct13 : Value}
    {f14 : Addr}
    {od14 an14 : Option Addr}
    {sl14 : Array (Option Value)}
    {oc14 kV14 dc14 pm14 cd14 ct14 : Value}
    {t_MOST_MAKES : Tok}
    {CM : Addr}
    {CL : Addr}
    {f_CM_many : Addr}
    {od_CM_many an_CM_many : Option Addr}
    {sl_CM_many : Array (Option Value)}
    {oc_CM_many kV_CM_many dc_CM_many pm_CM_many cd_CM_many ct_CM_many : Value}
    {f_CM_need_make : Addr}
    {od_CM_need_make an_CM_need_make : Option Addr}
    {sl_CM_need_make : Array (Option Value)}
    {oc_CM_need_make kV_CM_need_make dc_CM_need_make pm_CM_need_make cd_CM_need_make ct_CM_need_make : Value}
    {f_CM_need_steps : Addr}
    {od_CM_need_steps an_CM_need_steps : Option Addr}
    {sl_CM_need_steps : Array (Option Value)}
    {oc_CM_need_steps kV_CM_need_steps dc_CM_need_steps pm_CM_need_steps cd_CM_need_steps ct_CM_need_steps : Value}
    {f_CM_own : Addr}
    {od_CM_own an_CM_own : Option Addr}
    {sl_CM_own : Array (Option Value)}
    {oc_CM_own kV_CM_own dc_CM_own pm_CM_own cd_CM_own ct_CM_own : Value}
    {f_CM_depth : Addr}
    {od_CM_depth an_CM_depth : Option Addr}
    {sl_CM_depth : Array (Option Value)}
    {oc_CM_depth kV_CM_depth dc_CM_depth pm_CM_depth cd_CM_depth ct_CM_depth : Value}
    {f_CM_on : Addr}
    {od_CM_on an_CM_on : Option Addr}
    {sl_CM_on : Array (Option Value)}
    {oc_CM_on kV_CM_on dc_CM_on pm_CM_on cd_CM_on ct_CM_on : Value}
    {f_CM_line : Addr}
    {od_CM_line an_CM_line : Option Addr}
    {sl_CM_line : Array (Option Value)}
    {oc_CM_line kV_CM_line dc_CM_line pm_CM_line cd_CM_line ct_CM_line : Value}
    {f_CM_up : Addr}
    {od_CM_up an_CM_up : Option Addr}
    {sl_CM_up : Array (Option Value)}
    {oc_CM_up kV_CM_up dc_CM_up pm_CM_up cd_CM_up ct_CM_up : Value}
    {f_CM_nearest : Addr}
    {od_CM_nearest an_CM_nearest : Option Addr}
    {sl_CM_nearest : Array (Option Value)}
    {oc_CM_nearest kV_CM_nearest dc_CM_nearest pm_CM_nearest cd_CM_nearest ct_CM_nearest : Value}
    {f_CM_way : Addr}
    {od_CM_way an_CM_way : Option Addr}
    {sl_CM_way : Array (Option Value)}
    {oc_CM_way kV_CM_way dc_CM_way pm_CM_way cd_CM_way ct_CM_way : Value}
    {f_CM_apart : Addr}
    {od_CM_apart an_CM_apart : Option Addr}
    {sl_CM_apart : Array (Option Value)}
    {oc_CM_apart kV_CM_apart dc_CM_apart pm_CM_apart cd_CM_apart ct_CM_apart : Value}
    {f_CM_grow : Addr}
    {od_CM_grow an_CM_grow : Option Addr}
    {sl_CM_grow : Array (Option Value)}
    {oc_CM_grow kV_CM_grow dc_CM_grow pm_CM_grow cd_CM_grow ct_CM_grow : Value}
    {f_CM_init : Addr}
    {od_CM_init an_CM_init : Option Addr}
    {sl_CM_init : Array (Option Value)}
    {oc_CM_init kV_CM_init dc_CM_init pm_CM_init cd_CM_init ct_CM_init : Value}
    {f_CL_leaps_through : Addr}
    {od_CL_leaps_through an_CL_leaps_through : Option Addr}
    {sl_CL_leaps_through : Array (Option Value)}
    {oc_CL_leaps_through kV_CL_leaps_through dc_CL_leaps_through pm_CL_leaps_through cd_CL_leaps_through ct_CL_leaps_through : Value}
    {f_CL_leaps : Addr}
    {od_CL_leaps an_CL_leaps : Option Addr}
    {sl_CL_leaps : Array (Option Value)}
    {oc_CL_leaps kV_CL_leaps dc_CL_leaps pm_CL_leaps cd_CL_leaps ct_CL_leaps : Value}
    {f_CL_leap_way : Addr}
    {od_CL_leap_way an_CL_leap_way : Option Addr}
    {sl_CL_leap_way : Array (Option Value)}
    {oc_CL_leap_way kV_CL_leap_way dc_CL_leap_way pm_CL_leap_way cd_CL_leap_way ct_CL_leap_way : Value}
    {ic_CL : PySem.ClassData}
    {xc_CL : Value}
    {xd_CL : Option Addr}
    {xs_CL : Array (Option Value)}
    {f_CL_grow cc_CL_grow co_CL_grow : Addr}
    {od_CL_grow an_CL_grow cdd_CL_grow cld_CL_grow : Option Addr}
    {oc_CL_grow dc_CL_grow pm_CL_grow ct_CL_grow ccl_CL_grow cv_CL_grow : Value}
    {sl_CL_grow ccs_CL_grow csl_CL_grow : Array (Option Value)}
    {vs_CL_grow : Array Value}
    {tf_CL_grow : Tok}
    {file_CL_grow : Str}
    {f_CL_init cc_CL_init co_CL_init : Addr}
    {od_CL_init an_CL_init cdd_CL_init cld_CL_init : Option Addr}
    {oc_CL_init dc_CL_init pm_CL_init ct_CL_init ccl_CL_init cv_CL_init : Value}
    {sl_CL_init ccs_CL_init csl_CL_init : Array (Option Value)}
    {vs_CL_init : Array Value}
    {tf_CL_init : Tok}
    {file_CL_init : Str}
    {CE : Addr}
    {nmK qK fileK : Str} {CK fK NK cdaK ccK : Addr} {bsK subK : List Value} {snK : List Str} {abK : Bool} {colK : Option Bool} {ddK odK anK cddK cldK : Option Addr} {m0K m1K m2K m3K m5K : Option Value} {ocK dcK pmK ctK cclK clK : Value} {slK ccsK cslK : Array (Option Value)} {vsK : Array Value} {tfK : Tok} {kdK : Nat} {r1K r2K p1K p2K p3K p4K p5K p6K q1K q2K q3K q4K : Pos}
    {nmN qN fileN : Str} {CN fN NN cdaN ccN : Addr} {bsN subN : List Value} {snN : List Str} {abN : Bool} {colN : Option Bool} {ddN odN anN cddN cldN : Option Addr} {m0N m1N m2N m3N m5N : Option Value} {ocN dcN pmN ctN cclN clN : Value} {slN ccsN cslN : Array (Option Value)} {vsN : Array Value} {tfN : Tok} {kdN : Nat} {r1N r2N p1N p2N p3N p4N p5N p6N q1N q2N q3N q4N : Pos}
    {nmT qT fileT : Str} {CT fT NT cdaT ccT : Addr} {bsT subT : List Value} {snT : List Str} {abT : Bool} {colT : Option Bool} {ddT odT anT cddT cldT : Option Addr} {m0T m1T m2T m3T m5T : Option Value} {ocT dcT pmT ctT cclT clT : Value} {slT ccsT cslT : Array (Option Value)} {vsT : Array Value} {tfT : Tok} {kdT : Nat} {r1T r2T p1T p2T p3T p4T p5T p6T q1T q2T q3T q4T : Pos}
    (a0 : PySem.W.nsIn K mainGlobals "is_whole" = some (some (.ref f0)))
    (l0 : K.lookup f0 = some ⟨oc0, od0, .func (PySem.W.fnOf "is_whole" "is_whole" (defArgs s_is_whole) (defBody s_is_whole) (defScope s_is_whole) .none kV0 dc0 pm0 an0 cd0 ct0), sl0⟩)
    (c0 : PySem.W.codeIn K cd0 "is_whole" = true)
    (k0 : PySem.W.keepIn K (.ref f0) = true)
    (a1 : PySem.W.nsIn K mainGlobals "_law_cell" = some (some (.ref f1)))
    (l1 : K.lookup f1 = some ⟨oc1, od1, .func (PySem.W.fnOf "_law_cell" "_law_cell" (defArgs s__law_cell) (defBody s__law_cell) (defScope s__law_cell) .none kV1 dc1 pm1 an1 cd1 ct1), sl1⟩)
    (c1 : PySem.W.codeIn K cd1 "_law_cell" = true)
    (k1 : PySem.W.keepIn K (.ref f1) = true)
    (a2 : PySem.W.nsIn K mainGlobals "_law_box" = some (some (.ref f2)))
    (l2 : K.lookup f2 = some ⟨oc2, od2, .func (PySem.W.fnOf "_law_box" "_law_box" (defArgs s__law_box) (defBody s__law_box) (defScope s__law_box) .none kV2 dc2 pm2 an2 cd2 ct2), sl2⟩)
    (c2 : PySem.W.codeIn K cd2 "_law_box" = true)
    (k2 : PySem.W.keepIn K (.ref f2) = true)
    (a3 : PySem.W.nsIn K mainGlobals "_law_take" = some (some (.ref f3)))
    (l3 : K.lookup f3 = some ⟨oc3, od3, .func (PySem.W.fnOf "_law_take" "_law_take" (defArgs s__law_take) (defBody s__law_take) (defScope s__law_take) .none kV3 dc3 pm3 an3 cd3 ct3), sl3⟩)
    (c3 : PySem.W.codeIn K cd3 "_law_take" = true)
    (k3 : PySem.W.keepIn K (.ref f3) = true)
    (a4 : PySem.W.nsIn K mainGlobals "_law_pick" = some (some (.ref f4)))
    (l4 : K.lookup f4 = some ⟨oc4, od4, .func (PySem.W.fnOf "_law_pick" "_law_pick" (defArgs s__law_pick) (defBody s__law_pick) (defScope s__law_pick) .none kV4 dc4 pm4 an4 cd4 ct4), sl4⟩)
    (c4 : PySem.W.codeIn K cd4 "_law_pick" = true)
    (k4 : PySem.W.keepIn K (.ref f4) = true)
    (a5 : PySem.W.nsIn K mainGlobals "_law_tree" = some (some (.ref f5)))
    (l5 : K.lookup f5 = some ⟨oc5, od5, .func (PySem.W.fnOf "_law_tree" "_law_tree" (defArgs s__law_tree) (defBody s__law_tree) (defScope s__law_tree) .none kV5 dc5 pm5 an5 cd5 ct5), sl5⟩)
    (c5 : PySem.W.codeIn K cd5 "_law_tree" = true)
    (k5 : PySem.W.keepIn K (.ref f5) = true)
    (a6 : PySem.W.nsIn K mainGlobals "_law_line" = some (some (.ref f6)))
    (l6 : K.lookup f6 = some ⟨oc6, od6, .func (PySem.W.fnOf "_law_line" "_law_line" (defArgs s__law_line) (defBody s__law_line) (defScope s__law_line) .none kV6 dc6 pm6 an6 cd6 ct6), sl6⟩)
    (c6 : PySem.W.codeIn K cd6 "_law_line" = true)
    (k6 : PySem.W.keepIn K (.ref f6) = true)
    (a7 : PySem.W.nsIn K mainGlobals "_law_owners" = some (some (.ref f7)))
    (l7 : K.lookup f7 = some ⟨oc7, od7, .func (PySem.W.fnOf "_law_owners" "_law_owners" (defArgs s__law_owners) (defBody s__law_owners) (defScope s__law_owners) .none kV7 dc7 pm7 an7 cd7 ct7), sl7⟩)
    (c7 : PySem.W.codeIn K cd7 "_law_owners" = true)
    (k7 : PySem.W.keepIn K (.ref f7) = true)
    (a8 : PySem.W.nsIn K mainGlobals "_law_built" = some (some (.ref f8)))
    (l8 : K.lookup f8 = some ⟨oc8, od8, .func (PySem.W.fnOf "_law_built" "_law_built" (defArgs s__law_built) (defBody s__law_built) (defScope s__law_built) .none kV8 dc8 pm8 an8 cd8 ct8), sl8⟩)
    (c8 : PySem.W.codeIn K cd8 "_law_built" = true)
    (k8 : PySem.W.keepIn K (.ref f8) = true)
    (a9 : PySem.W.nsIn K mainGlobals "_law_asked" = some (some (.ref f9)))
    (l9 : K.lookup f9 = some ⟨oc9, od9, .func (PySem.W.fnOf "_law_asked" "_law_asked" (defArgs s__law_asked) (defBody s__law_asked) (defScope s__law_asked) .none kV9 dc9 pm9 an9 cd9 ct9), sl9⟩)
    (c9 : PySem.W.codeIn K cd9 "_law_asked" = true)
    (k9 : PySem.W.keepIn K (.ref f9) = true)
    (a10 : PySem.W.nsIn K mainGlobals "_law_told" = some (some (.ref f10)))
    (l10 : K.lookup f10 = some ⟨oc10, od10, .func (PySem.W.fnOf "_law_told" "_law_told" (defArgs s__law_told) (defBody s__law_told) (defScope s__law_told) .none kV10 dc10 pm10 an10 cd10 ct10), sl10⟩)
    (c10 : PySem.W.codeIn K cd10 "_law_told" = true)
    (k10 : PySem.W.keepIn K (.ref f10) = true)
    (a11 : PySem.W.nsIn K mainGlobals "_law_bad" = some (some (.ref f11)))
    (l11 : K.lookup f11 = some ⟨oc11, od11, .func (PySem.W.fnOf "_law_bad" "_law_bad" (defArgs s__law_bad) (defBody s__law_bad) (defScope s__law_bad) .none kV11 dc11 pm11 an11 cd11 ct11), sl11⟩)
    (c11 : PySem.W.codeIn K cd11 "_law_bad" = true)
    (k11 : PySem.W.keepIn K (.ref f11) = true)
    (a12 : PySem.W.nsIn K mainGlobals "_law_right" = some (some (.ref f12)))
    (l12 : K.lookup f12 = some ⟨oc12, od12, .func (PySem.W.fnOf "_law_right" "_law_right" (defArgs s__law_right) (defBody s__law_right) (defScope s__law_right) .none kV12 dc12 pm12 an12 cd12 ct12), sl12⟩)
    (c12 : PySem.W.codeIn K cd12 "_law_right" = true)
    (k12 : PySem.W.keepIn K (.ref f12) = true)
    (a13 : PySem.W.nsIn K mainGlobals "_law_steps_right" = some (some (.ref f13)))
    (l13 : K.lookup f13 = some ⟨oc13, od13, .func (PySem.W.fnOf "_law_steps_right" "_law_steps_right" (defArgs s__law_steps_right) (defBody s__law_steps_right) (defScope s__law_steps_right) .none kV13 dc13 pm13 an13 cd13 ct13), sl13⟩)
    (c13 : PySem.W.codeIn K cd13 "_law_steps_right" = true)
    (k13 : PySem.W.keepIn K (.ref f13) = true)
    (a14 : PySem.W.nsIn K mainGlobals "law" = some (some (.ref f14)))
    (l14 : K.lookup f14 = some ⟨oc14, od14, .func (PySem.W.fnOf "law" "law" (defArgs s_law) (defBody s_law) (defScope s_law) .none kV14 dc14 pm14 an14 cd14 ct14), sl14⟩)
    (c14 : PySem.W.codeIn K cd14 "law" = true)
    (k14 : PySem.W.keepIn K (.ref f14) = true)
    (z_len : PySem.W.nsIn K mainGlobals "len" = some none)
    (z_max : PySem.W.nsIn K mainGlobals "max" = some none)
    (z_min : PySem.W.nsIn K mainGlobals "min" = some none)
    (z_range : PySem.W.nsIn K mainGlobals "range" = some none)
    (z_repr : PySem.W.nsIn K mainGlobals "repr" = some none)
    (z_zip : PySem.W.nsIn K mainGlobals "zip" = some none)
    (z_isinstance : PySem.W.nsIn K mainGlobals "isinstance" = some none)
    (z_int : PySem.W.nsIn K mainGlobals "int" = some none)
    (z_bool : PySem.W.nsIn K mainGlobals "bool" = some none)
    (z_list : PySem.W.nsIn K mainGlobals "list" = some none)
    (z_reversed : PySem.W.nsIn K mainGlobals "reversed" = some none)
    (i_MOST_MAKES : PySem.W.nsIn K mainGlobals "MOST_MAKES" = some (some (.int 64 t_MOST_MAKES)))
    (a_CM : PySem.W.nsIn K mainGlobals "MakeTree" = some (some (.ref CM)))
    (pg_CM : PySem.W.plainGet K CM Str.empty = true)
    (hd_CM : PySem.W.hasDictIn K CM = true)
    (po_CM : PySem.W.plainOver K CM = true)
    (sa_CM : PySem.W.findIn K (.ref CM) "__setattr__" = some (some (.builtin "object.__setattr__")))
    (no_CM__owns : PySem.W.findIn K (.ref CM) "_owns" = some none)
    (no_CM__depths : PySem.W.findIn K (.ref CM) "_depths" = some none)
    (no_CM__on : PySem.W.findIn K (.ref CM) "_on" = some none)
    (no_CM__leaps : PySem.W.findIn K (.ref CM) "_leaps" = some none)
    (mk_CM : PySem.W.makesIn K CM = true)
    (kp_CM : PySem.W.keepIn K (.ref CM) = true)
    (a_CL : PySem.W.nsIn K mainGlobals "LeapTree" = some (some (.ref CL)))
    (pg_CL : PySem.W.plainGet K CL Str.empty = true)
    (hd_CL : PySem.W.hasDictIn K CL = true)
    (po_CL : PySem.W.plainOver K CL = true)
    (sa_CL : PySem.W.findIn K (.ref CL) "__setattr__" = some (some (.builtin "object.__setattr__")))
    (no_CL__owns : PySem.W.findIn K (.ref CL) "_owns" = some none)
    (no_CL__depths : PySem.W.findIn K (.ref CL) "_depths" = some none)
    (no_CL__on : PySem.W.findIn K (.ref CL) "_on" = some none)
    (no_CL__leaps : PySem.W.findIn K (.ref CL) "_leaps" = some none)
    (mk_CL : PySem.W.makesIn K CL = true)
    (kp_CL : PySem.W.keepIn K (.ref CL) = true)
    (m_CM_many : PySem.W.findIn K (.ref CM) "many" = some (some (.ref f_CM_many)))
    (l_CM_many : K.lookup f_CM_many = some ⟨oc_CM_many, od_CM_many, .func (PySem.W.fnOf "many" "MakeTree.many" (defArgs s_MakeTree_many) (defBody s_MakeTree_many) (defScope s_MakeTree_many) .none kV_CM_many dc_CM_many pm_CM_many an_CM_many cd_CM_many ct_CM_many), sl_CM_many⟩)
    (c_CM_many : PySem.W.codeIn K cd_CM_many "MakeTree.many" = true)
    (k_CM_many : PySem.W.keepIn K (.ref f_CM_many) = true)
    (y_CM_many : PySem.W.isFn K (.ref f_CM_many) = true)
    (m_CM_many_CL : PySem.W.findIn K (.ref CL) "many" = some (some (.ref f_CM_many)))
    (m_CM_need_make : PySem.W.findIn K (.ref CM) "_need_make" = some (some (.ref f_CM_need_make)))
    (l_CM_need_make : K.lookup f_CM_need_make = some ⟨oc_CM_need_make, od_CM_need_make, .func (PySem.W.fnOf "_need_make" "MakeTree._need_make" (defArgs s_MakeTree__need_make) (defBody s_MakeTree__need_make) (defScope s_MakeTree__need_make) .none kV_CM_need_make dc_CM_need_make pm_CM_need_make an_CM_need_make cd_CM_need_make ct_CM_need_make), sl_CM_need_make⟩)
    (c_CM_need_make : PySem.W.codeIn K cd_CM_need_make "MakeTree._need_make" = true)
    (k_CM_need_make : PySem.W.keepIn K (.ref f_CM_need_make) = true)
    (y_CM_need_make : PySem.W.isFn K (.ref f_CM_need_make) = true)
    (m_CM_need_make_CL : PySem.W.findIn K (.ref CL) "_need_make" = some (some (.ref f_CM_need_make)))
    (m_CM_need_steps : PySem.W.findIn K (.ref CM) "_need_steps" = some (some (.ref f_CM_need_steps)))
    (l_CM_need_steps : K.lookup f_CM_need_steps = some ⟨oc_CM_need_steps, od_CM_need_steps, .func (PySem.W.fnOf "_need_steps" "MakeTree._need_steps" (defArgs s_MakeTree__need_steps) (defBody s_MakeTree__need_steps) (defScope s_MakeTree__need_steps) .none kV_CM_need_steps dc_CM_need_steps pm_CM_need_steps an_CM_need_steps cd_CM_need_steps ct_CM_need_steps), sl_CM_need_steps⟩)
    (c_CM_need_steps : PySem.W.codeIn K cd_CM_need_steps "MakeTree._need_steps" = true)
    (k_CM_need_steps : PySem.W.keepIn K (.ref f_CM_need_steps) = true)
    (y_CM_need_steps : PySem.W.isFn K (.ref f_CM_need_steps) = true)
    (m_CM_need_steps_CL : PySem.W.findIn K (.ref CL) "_need_steps" = some (some (.ref f_CM_need_steps)))
    (m_CM_own : PySem.W.findIn K (.ref CM) "own" = some (some (.ref f_CM_own)))
    (l_CM_own : K.lookup f_CM_own = some ⟨oc_CM_own, od_CM_own, .func (PySem.W.fnOf "own" "MakeTree.own" (defArgs s_MakeTree_own) (defBody s_MakeTree_own) (defScope s_MakeTree_own) .none kV_CM_own dc_CM_own pm_CM_own an_CM_own cd_CM_own ct_CM_own), sl_CM_own⟩)
    (c_CM_own : PySem.W.codeIn K cd_CM_own "MakeTree.own" = true)
    (k_CM_own : PySem.W.keepIn K (.ref f_CM_own) = true)
    (y_CM_own : PySem.W.isFn K (.ref f_CM_own) = true)
    (m_CM_own_CL : PySem.W.findIn K (.ref CL) "own" = some (some (.ref f_CM_own)))
    (m_CM_depth : PySem.W.findIn K (.ref CM) "depth" = some (some (.ref f_CM_depth)))
    (l_CM_depth : K.lookup f_CM_depth = some ⟨oc_CM_depth, od_CM_depth, .func (PySem.W.fnOf "depth" "MakeTree.depth" (defArgs s_MakeTree_depth) (defBody s_MakeTree_depth) (defScope s_MakeTree_depth) .none kV_CM_depth dc_CM_depth pm_CM_depth an_CM_depth cd_CM_depth ct_CM_depth), sl_CM_depth⟩)
    (c_CM_depth : PySem.W.codeIn K cd_CM_depth "MakeTree.depth" = true)
    (k_CM_depth : PySem.W.keepIn K (.ref f_CM_depth) = true)
    (y_CM_depth : PySem.W.isFn K (.ref f_CM_depth) = true)
    (m_CM_depth_CL : PySem.W.findIn K (.ref CL) "depth" = some (some (.ref f_CM_depth)))
    (m_CM_on : PySem.W.findIn K (.ref CM) "on" = some (some (.ref f_CM_on)))
    (l_CM_on : K.lookup f_CM_on = some ⟨oc_CM_on, od_CM_on, .func (PySem.W.fnOf "on" "MakeTree.on" (defArgs s_MakeTree_on) (defBody s_MakeTree_on) (defScope s_MakeTree_on) .none kV_CM_on dc_CM_on pm_CM_on an_CM_on cd_CM_on ct_CM_on), sl_CM_on⟩)
    (c_CM_on : PySem.W.codeIn K cd_CM_on "MakeTree.on" = true)
    (k_CM_on : PySem.W.keepIn K (.ref f_CM_on) = true)
    (y_CM_on : PySem.W.isFn K (.ref f_CM_on) = true)
    (m_CM_on_CL : PySem.W.findIn K (.ref CL) "on" = some (some (.ref f_CM_on)))
    (m_CM_line : PySem.W.findIn K (.ref CM) "line" = some (some (.ref f_CM_line)))
    (l_CM_line : K.lookup f_CM_line = some ⟨oc_CM_line, od_CM_line, .func (PySem.W.fnOf "line" "MakeTree.line" (defArgs s_MakeTree_line) (defBody s_MakeTree_line) (defScope s_MakeTree_line) .none kV_CM_line dc_CM_line pm_CM_line an_CM_line cd_CM_line ct_CM_line), sl_CM_line⟩)
    (c_CM_line : PySem.W.codeIn K cd_CM_line "MakeTree.line" = true)
    (k_CM_line : PySem.W.keepIn K (.ref f_CM_line) = true)
    (y_CM_line : PySem.W.isFn K (.ref f_CM_line) = true)
    (m_CM_line_CL : PySem.W.findIn K (.ref CL) "line" = some (some (.ref f_CM_line)))
    (m_CM_up : PySem.W.findIn K (.ref CM) "up" = some (some (.ref f_CM_up)))
    (l_CM_up : K.lookup f_CM_up = some ⟨oc_CM_up, od_CM_up, .func (PySem.W.fnOf "up" "MakeTree.up" (defArgs s_MakeTree_up) (defBody s_MakeTree_up) (defScope s_MakeTree_up) .none kV_CM_up dc_CM_up pm_CM_up an_CM_up cd_CM_up ct_CM_up), sl_CM_up⟩)
    (c_CM_up : PySem.W.codeIn K cd_CM_up "MakeTree.up" = true)
    (k_CM_up : PySem.W.keepIn K (.ref f_CM_up) = true)
    (y_CM_up : PySem.W.isFn K (.ref f_CM_up) = true)
    (m_CM_up_CL : PySem.W.findIn K (.ref CL) "up" = some (some (.ref f_CM_up)))
    (m_CM_nearest : PySem.W.findIn K (.ref CM) "nearest" = some (some (.ref f_CM_nearest)))
    (l_CM_nearest : K.lookup f_CM_nearest = some ⟨oc_CM_nearest, od_CM_nearest, .func (PySem.W.fnOf "nearest" "MakeTree.nearest" (defArgs s_MakeTree_nearest) (defBody s_MakeTree_nearest) (defScope s_MakeTree_nearest) .none kV_CM_nearest dc_CM_nearest pm_CM_nearest an_CM_nearest cd_CM_nearest ct_CM_nearest), sl_CM_nearest⟩)
    (c_CM_nearest : PySem.W.codeIn K cd_CM_nearest "MakeTree.nearest" = true)
    (k_CM_nearest : PySem.W.keepIn K (.ref f_CM_nearest) = true)
    (y_CM_nearest : PySem.W.isFn K (.ref f_CM_nearest) = true)
    (m_CM_nearest_CL : PySem.W.findIn K (.ref CL) "nearest" = some (some (.ref f_CM_nearest)))
    (m_CM_way : PySem.W.findIn K (.ref CM) "way" = some (some (.ref f_CM_way)))
    (l_CM_way : K.lookup f_CM_way = some ⟨oc_CM_way, od_CM_way, .func (PySem.W.fnOf "way" "MakeTree.way" (defArgs s_MakeTree_way) (defBody s_MakeTree_way) (defScope s_MakeTree_way) .none kV_CM_way dc_CM_way pm_CM_way an_CM_way cd_CM_way ct_CM_way), sl_CM_way⟩)
    (c_CM_way : PySem.W.codeIn K cd_CM_way "MakeTree.way" = true)
    (k_CM_way : PySem.W.keepIn K (.ref f_CM_way) = true)
    (y_CM_way : PySem.W.isFn K (.ref f_CM_way) = true)
    (m_CM_way_CL : PySem.W.findIn K (.ref CL) "way" = some (some (.ref f_CM_way)))
    (m_CM_apart : PySem.W.findIn K (.ref CM) "apart" = some (some (.ref f_CM_apart)))
    (l_CM_apart : K.lookup f_CM_apart = some ⟨oc_CM_apart, od_CM_apart, .func (PySem.W.fnOf "apart" "MakeTree.apart" (defArgs s_MakeTree_apart) (defBody s_MakeTree_apart) (defScope s_MakeTree_apart) .none kV_CM_apart dc_CM_apart pm_CM_apart an_CM_apart cd_CM_apart ct_CM_apart), sl_CM_apart⟩)
    (c_CM_apart : PySem.W.codeIn K cd_CM_apart "MakeTree.apart" = true)
    (k_CM_apart : PySem.W.keepIn K (.ref f_CM_apart) = true)
    (y_CM_apart : PySem.W.isFn K (.ref f_CM_apart) = true)
    (m_CM_apart_CL : PySem.W.findIn K (.ref CL) "apart" = some (some (.ref f_CM_apart)))
    (m_CM_grow : PySem.W.findIn K (.ref CM) "grow" = some (some (.ref f_CM_grow)))
    (l_CM_grow : K.lookup f_CM_grow = some ⟨oc_CM_grow, od_CM_grow, .func (PySem.W.fnOf "grow" "MakeTree.grow" (defArgs s_MakeTree_grow) (defBody s_MakeTree_grow) (defScope s_MakeTree_grow) .none kV_CM_grow dc_CM_grow pm_CM_grow an_CM_grow cd_CM_grow ct_CM_grow), sl_CM_grow⟩)
    (c_CM_grow : PySem.W.codeIn K cd_CM_grow "MakeTree.grow" = true)
    (k_CM_grow : PySem.W.keepIn K (.ref f_CM_grow) = true)
    (y_CM_grow : PySem.W.isFn K (.ref f_CM_grow) = true)
    (m_CM_init : PySem.W.findIn K (.ref CM) "__init__" = some (some (.ref f_CM_init)))
    (l_CM_init : K.lookup f_CM_init = some ⟨oc_CM_init, od_CM_init, .func (PySem.W.fnOf "__init__" "MakeTree.__init__" (defArgs s_MakeTree___init__) (defBody s_MakeTree___init__) (defScope s_MakeTree___init__) .none kV_CM_init dc_CM_init pm_CM_init an_CM_init cd_CM_init ct_CM_init), sl_CM_init⟩)
    (c_CM_init : PySem.W.codeIn K cd_CM_init "MakeTree.__init__" = true)
    (k_CM_init : PySem.W.keepIn K (.ref f_CM_init) = true)
    (y_CM_init : PySem.W.isFn K (.ref f_CM_init) = true)
    (m_CL_leaps_through : PySem.W.findIn K (.ref CL) "_leaps_through" = some (some (.ref f_CL_leaps_through)))
    (l_CL_leaps_through : K.lookup f_CL_leaps_through = some ⟨oc_CL_leaps_through, od_CL_leaps_through, .func (PySem.W.fnOf "_leaps_through" "LeapTree._leaps_through" (defArgs s_LeapTree__leaps_through) (defBody s_LeapTree__leaps_through) (defScope s_LeapTree__leaps_through) .none kV_CL_leaps_through dc_CL_leaps_through pm_CL_leaps_through an_CL_leaps_through cd_CL_leaps_through ct_CL_leaps_through), sl_CL_leaps_through⟩)
    (c_CL_leaps_through : PySem.W.codeIn K cd_CL_leaps_through "LeapTree._leaps_through" = true)
    (k_CL_leaps_through : PySem.W.keepIn K (.ref f_CL_leaps_through) = true)
    (y_CL_leaps_through : PySem.W.isFn K (.ref f_CL_leaps_through) = true)
    (m_CL_leaps : PySem.W.findIn K (.ref CL) "leaps" = some (some (.ref f_CL_leaps)))
    (l_CL_leaps : K.lookup f_CL_leaps = some ⟨oc_CL_leaps, od_CL_leaps, .func (PySem.W.fnOf "leaps" "LeapTree.leaps" (defArgs s_LeapTree_leaps) (defBody s_LeapTree_leaps) (defScope s_LeapTree_leaps) .none kV_CL_leaps dc_CL_leaps pm_CL_leaps an_CL_leaps cd_CL_leaps ct_CL_leaps), sl_CL_leaps⟩)
    (c_CL_leaps : PySem.W.codeIn K cd_CL_leaps "LeapTree.leaps" = true)
    (k_CL_leaps : PySem.W.keepIn K (.ref f_CL_leaps) = true)
    (y_CL_leaps : PySem.W.isFn K (.ref f_CL_leaps) = true)
    (m_CL_leap_way : PySem.W.findIn K (.ref CL) "leap_way" = some (some (.ref f_CL_leap_way)))
    (l_CL_leap_way : K.lookup f_CL_leap_way = some ⟨oc_CL_leap_way, od_CL_leap_way, .func (PySem.W.fnOf "leap_way" "LeapTree.leap_way" (defArgs s_LeapTree_leap_way) (defBody s_LeapTree_leap_way) (defScope s_LeapTree_leap_way) .none kV_CL_leap_way dc_CL_leap_way pm_CL_leap_way an_CL_leap_way cd_CL_leap_way ct_CL_leap_way), sl_CL_leap_way⟩)
    (c_CL_leap_way : PySem.W.codeIn K cd_CL_leap_way "LeapTree.leap_way" = true)
    (k_CL_leap_way : PySem.W.keepIn K (.ref f_CL_leap_way) = true)
    (y_CL_leap_way : PySem.W.isFn K (.ref f_CL_leap_way) = true)
    (op : PySem.W.nsIn K cStatics "thirdparty.any" = some none)
    (zs : PySem.W.nsIn K mainGlobals "super" = some none)
    (htop : (l.prog.main.scope.names.lookup ("super" : Str)).isSome = false)
    (x_CL : K.lookup CL = some ⟨xc_CL, xd_CL, .cls ic_CL, xs_CL⟩)
    (mm_CL : PySem.W.mroIn K CL (.ref CL) = some true)
    (m_CL_grow : PySem.W.findIn K (.ref CL) "grow" = some (some (.ref f_CL_grow)))
    (l_CL_grow : K.lookup f_CL_grow = some ⟨oc_CL_grow, od_CL_grow, .func (PySem.W.ksFn "grow" "LeapTree.grow" (defArgs s_LeapTree_grow) (defBody s_LeapTree_grow) (defScope s_LeapTree_grow) .none .none dc_CL_grow pm_CL_grow an_CL_grow (.ref co_CL_grow) ct_CL_grow cc_CL_grow), sl_CL_grow⟩)
    (c_CL_grow : PySem.W.codeIn K (.ref co_CL_grow) "LeapTree.grow" = true)
    (y_CL_grow : PySem.W.isFn K (.ref f_CL_grow) = true)
    (k_CL_grow : PySem.W.keepIn K (.ref f_CL_grow) = true)
    (dl_CL_grow : K.lookup co_CL_grow = some ⟨ccl_CL_grow, cdd_CL_grow, .fields vs_CL_grow, ccs_CL_grow⟩)
    (fv_CL_grow : vs_CL_grow[2]? = some (.str file_CL_grow tf_CL_grow))
    (fl_CL_grow : ((l.prog.main.file : Str) == file_CL_grow) = true)
    (zc_CL_grow : K.lookup cc_CL_grow = some ⟨cv_CL_grow, cld_CL_grow, .cell (some (.ref CL)), csl_CL_grow⟩)
    (su_CL_grow : PySem.W.ks_superIn K CL CL "grow" = some (some (.ref f_CM_grow)))
    (ty_CL_grow : PySem.W.typeIn K (.ref f_CM_grow) = some (.type "function"))
    (fg_CL_grow : PySem.W.fnIn K f_CM_grow = true)
    (m_CL_init : PySem.W.findIn K (.ref CL) "__init__" = some (some (.ref f_CL_init)))
    (l_CL_init : K.lookup f_CL_init = some ⟨oc_CL_init, od_CL_init, .func (PySem.W.ksFn "__init__" "LeapTree.__init__" (defArgs s_LeapTree___init__) (defBody s_LeapTree___init__) (defScope s_LeapTree___init__) .none .none dc_CL_init pm_CL_init an_CL_init (.ref co_CL_init) ct_CL_init cc_CL_init), sl_CL_init⟩)
    (c_CL_init : PySem.W.codeIn K (.ref co_CL_init) "LeapTree.__init__" = true)
    (y_CL_init : PySem.W.isFn K (.ref f_CL_init) = true)
    (k_CL_init : PySem.W.keepIn K (.ref f_CL_init) = true)
    (dl_CL_init : K.lookup co_CL_init = some ⟨ccl_CL_init, cdd_CL_init, .fields vs_CL_init, ccs_CL_init⟩)
    (fv_CL_init : vs_CL_init[2]? = some (.str file_CL_init tf_CL_init))
    (fl_CL_init : ((l.prog.main.file : Str) == file_CL_init) = true)
    (zc_CL_init : K.lookup cc_CL_init = some ⟨cv_CL_init, cld_CL_init, .cell (some (.ref CL)), csl_CL_init⟩)
    (su_CL_init : PySem.W.ks_superIn K CL CL "__init__" = some (some (.ref f_CM_init)))
    (ty_CL_init : PySem.W.typeIn K (.ref f_CM_init) = some (.type "function"))
    (fg_CL_init : PySem.W.fnIn K f_CM_init = true)
    (aE : PySem.W.nsIn K mainGlobals "MakesError" = some (some (.ref CE)))
    (iE : PySem.W.isClsIn K CE = true)
    (yE : PySem.W.typeIn K (.ref CE) = some (.type "type"))
    (eE : PySem.W.subIn K (.ref CE) (.type "BaseException") = some true)
    (aK : PySem.W.nsIn K mainGlobals "NoMake" = some (some (.ref CK)))
    (xK : K.lookup CK = some (excClassObj nmK qK CK NK bsK [.ref CE, .type "ValueError", .type "Exception", .type "BaseException", .type "object"] true snK subK abK colK ddK m0K m1K m2K m3K m5K "ValueError.__new__"))
    (saK : PySem.W.findIn K (.ref CK) "__setattr__" = some (some (.builtin "object.__setattr__")))
    (gaK : PySem.W.findIn K (.ref CK) "__getattribute__" = some (some (.builtin "BaseException.__getattribute__")))
    (ggK : PySem.W.findIn K (.ref CK) "__getattr__" = some none)
    (nnK : PySem.W.findIn K (.ref CK) "found" = some none)
    (iiK : PySem.W.findIn K (.ref CK) "__init__" = some (some (.ref fK)))
    (ttK : PySem.W.typeIn K (.ref fK) = some (.type "function"))
    (kkK : PySem.W.keepIn K (.ref CK) = true)
    (eeK : PySem.W.subIn K (.ref CK) (.type "BaseException") = some true)
    (veK : PySem.W.subIn K (.ref CK) (.type "ValueError") = some true)
    (tyK : PySem.W.typeIn K (.ref CK) = some (.type "type"))
    (hdK : PySem.W.hasDictIn K CK = true)
    (mmK : PySem.W.mroIn K CK (.ref CK) = some true)
    (suK : PySem.W.ks_superIn K CK CK "__init__" = some (some (.builtin "ValueError.__init__")))
    (llK : K.lookup fK = some ⟨ocK, odK, .func (PySem.W.ksFn "__init__" "NoMake.__init__" (Ge.iA r1K r2K) (Ge.iB "this is no make" kdK p1K p2K p3K p4K p5K p6K q1K q2K q3K q4K) Ge.iS .none .none dcK pmK anK (.ref cdaK) ctK ccK), slK⟩)
    (ciK : PySem.W.codeIn K (.ref cdaK) "NoMake.__init__" = true)
    (dlK : K.lookup cdaK = some ⟨cclK, cddK, .fields vsK, ccsK⟩)
    (fvK : vsK[2]? = some (.str fileK tfK))
    (flK : ((l.prog.main.file : Str) == fileK) = true)
    (zcK : K.lookup ccK = some ⟨clK, cldK, .cell (some (.ref CK)), cslK⟩)
    (plK : (p3K.endLine == p5K.line) = true)
    (h1K : PySem.W.findIn K (.ref CK) "__class__" = some (some (.builtin "object.__class__")))
    (h2K : PySem.W.specialIn K (.builtin "object.__class__") "__get__" = some (some (.builtin "getset_descriptor.__get__")))
    (h3K : PySem.W.takesIn K (.builtin "object.__class__") = some true)
    (h4K : PySem.W.mroIn K CK (.type "object") = some true)
    (smK : PySem.W.subIn K (.ref CK) (.ref CE) = some true)
    (aN : PySem.W.nsIn K mainGlobals "NoNumber" = some (some (.ref CN)))
    (xN : K.lookup CN = some (excClassObj nmN qN CN NN bsN [.ref CE, .type "ValueError", .type "Exception", .type "BaseException", .type "object"] true snN subN abN colN ddN m0N m1N m2N m3N m5N "ValueError.__new__"))
    (saN : PySem.W.findIn K (.ref CN) "__setattr__" = some (some (.builtin "object.__setattr__")))
    (gaN : PySem.W.findIn K (.ref CN) "__getattribute__" = some (some (.builtin "BaseException.__getattribute__")))
    (ggN : PySem.W.findIn K (.ref CN) "__getattr__" = some none)
    (nnN : PySem.W.findIn K (.ref CN) "found" = some none)
    (iiN : PySem.W.findIn K (.ref CN) "__init__" = some (some (.ref fN)))
    (ttN : PySem.W.typeIn K (.ref fN) = some (.type "function"))
    (kkN : PySem.W.keepIn K (.ref CN) = true)
    (eeN : PySem.W.subIn K (.ref CN) (.type "BaseException") = some true)
    (veN : PySem.W.subIn K (.ref CN) (.type "ValueError") = some true)
    (tyN : PySem.W.typeIn K (.ref CN) = some (.type "type"))
    (hdN : PySem.W.hasDictIn K CN = true)
    (mmN : PySem.W.mroIn K CN (.ref CN) = some true)
    (suN : PySem.W.ks_superIn K CN CN "__init__" = some (some (.builtin "ValueError.__init__")))
    (llN : K.lookup fN = some ⟨ocN, odN, .func (PySem.W.ksFn "__init__" "NoNumber.__init__" (Ge.iA r1N r2N) (Ge.iB "this is no such number" kdN p1N p2N p3N p4N p5N p6N q1N q2N q3N q4N) Ge.iS .none .none dcN pmN anN (.ref cdaN) ctN ccN), slN⟩)
    (ciN : PySem.W.codeIn K (.ref cdaN) "NoNumber.__init__" = true)
    (dlN : K.lookup cdaN = some ⟨cclN, cddN, .fields vsN, ccsN⟩)
    (fvN : vsN[2]? = some (.str fileN tfN))
    (flN : ((l.prog.main.file : Str) == fileN) = true)
    (zcN : K.lookup ccN = some ⟨clN, cldN, .cell (some (.ref CN)), cslN⟩)
    (plN : (p3N.endLine == p5N.line) = true)
    (h1N : PySem.W.findIn K (.ref CN) "__class__" = some (some (.builtin "object.__class__")))
    (h2N : PySem.W.specialIn K (.builtin "object.__class__") "__get__" = some (some (.builtin "getset_descriptor.__get__")))
    (h3N : PySem.W.takesIn K (.builtin "object.__class__") = some true)
    (h4N : PySem.W.mroIn K CN (.type "object") = some true)
    (smN : PySem.W.subIn K (.ref CN) (.ref CE) = some true)
    (aT : PySem.W.nsIn K mainGlobals "TooMany" = some (some (.ref CT)))
    (xT : K.lookup CT = some (excClassObj nmT qT CT NT bsT [.ref CE, .type "ValueError", .type "Exception", .type "BaseException", .type "object"] true snT subT abT colT ddT m0T m1T m2T m3T m5T "ValueError.__new__"))
    (saT : PySem.W.findIn K (.ref CT) "__setattr__" = some (some (.builtin "object.__setattr__")))
    (gaT : PySem.W.findIn K (.ref CT) "__getattribute__" = some (some (.builtin "BaseException.__getattribute__")))
    (ggT : PySem.W.findIn K (.ref CT) "__getattr__" = some none)
    (nnT : PySem.W.findIn K (.ref CT) "count" = some none)
    (iiT : PySem.W.findIn K (.ref CT) "__init__" = some (some (.ref fT)))
    (ttT : PySem.W.typeIn K (.ref fT) = some (.type "function"))
    (kkT : PySem.W.keepIn K (.ref CT) = true)
    (eeT : PySem.W.subIn K (.ref CT) (.type "BaseException") = some true)
    (veT : PySem.W.subIn K (.ref CT) (.type "ValueError") = some true)
    (tyT : PySem.W.typeIn K (.ref CT) = some (.type "type"))
    (hdT : PySem.W.hasDictIn K CT = true)
    (mmT : PySem.W.mroIn K CT (.ref CT) = some true)
    (suT : PySem.W.ks_superIn K CT CT "__init__" = some (some (.builtin "ValueError.__init__")))
    (llT : K.lookup fT = some ⟨ocT, odT, .func (PySem.W.ksFn "__init__" "TooMany.__init__" (Gc.iA r1T r2T) (Gc.iB "there would be too many" kdT p1T p2T p3T p4T p5T p6T q1T q2T q3T q4T) Gc.iS .none .none dcT pmT anT (.ref cdaT) ctT ccT), slT⟩)
    (ciT : PySem.W.codeIn K (.ref cdaT) "TooMany.__init__" = true)
    (dlT : K.lookup cdaT = some ⟨cclT, cddT, .fields vsT, ccsT⟩)
    (fvT : vsT[2]? = some (.str fileT tfT))
    (flT : ((l.prog.main.file : Str) == fileT) = true)
    (zcT : K.lookup ccT = some ⟨clT, cldT, .cell (some (.ref CT)), cslT⟩)
    (plT : (p3T.endLine == p5T.line) = true)
    (h1T : PySem.W.findIn K (.ref CT) "__class__" = some (some (.builtin "object.__class__")))
    (h2T : PySem.W.specialIn K (.builtin "object.__class__") "__get__" = some (some (.builtin "getset_descriptor.__get__")))
    (h3T : PySem.W.takesIn K (.builtin "object.__class__") = some true)
    (h4T : PySem.W.mroIn K CT (.type "object") = some true)
    (smT : PySem.W.subIn K (.ref CT) (.ref CE) = some true)
    (ssK : PySem.W.subIn K (.ref CK) (.ref CK) = some true)
    (icK : PySem.W.isClsIn K CK = true)
    (ssN : PySem.W.subIn K (.ref CN) (.ref CN) = some true)
    (icN : PySem.W.isClsIn K CN = true)
    (ssT : PySem.W.subIn K (.ref CT) (.ref CT) = some true)
    (icT : PySem.W.isClsIn K CT = true)
    (ksNK : PySem.W.subIn K (.ref CN) (.ref CK) = some false)
    (ksTK : PySem.W.subIn K (.ref CT) (.ref CK) = some false)
    (ksTN : PySem.W.subIn K (.ref CT) (.ref CN) = some false)
    : ∃ fd : FuncData, (∀ (s : Shared) (v : Value), BindsTo s fd ⟨[v], []⟩ [("_law_script", v)]) ∧ ∀ base : Heap, K.In base → base.Ns mainGlobals mg → FnG l.prog w K mg base CX0 9 fa fd ["_law_script"] (spLaw K) := by
  have e := hfa.symm.trans (PySem.W.mg_of X G a14)
  cases e
  have d_is_whole : DefAt K mg "is_whole" s_is_whole ["thing", "low", "high"] := defAt (PySem.W.mg_of X G a0) l0 c0 k0 (fun _ _ _ _ _ _ us hl => match us, hl with | [_, _, _], _ => rfl)
  have d__law_cell : DefAt K mg "_law_cell" s__law_cell ["_law_script", "_law_k"] := defAt (PySem.W.mg_of X G a1) l1 c1 k1 (fun _ _ _ _ _ _ us hl => match us, hl with | [_, _], _ => rfl)
  have d__law_box : DefAt K mg "_law_box" s__law_box ["_law_cell_here"] := defAt (PySem.W.mg_of X G a2) l2 c2 k2 (fun _ _ _ _ _ _ us hl => match us, hl with | [_], _ => rfl)
  have d__law_take : DefAt K mg "_law_take" s__law_take ["_law_box_here", "_law_many"] := defAt (PySem.W.mg_of X G a3) l3 c3 k3 (fun _ _ _ _ _ _ us hl => match us, hl with | [_, _], _ => rfl)
  have d__law_pick : DefAt K mg "_law_pick" s__law_pick ["_law_box_here", "_law_many"] := defAt (PySem.W.mg_of X G a4) l4 c4 k4 (fun _ _ _ _ _ _ us hl => match us, hl with | [_, _], _ => rfl)
  have d__law_tree : DefAt K mg "_law_tree" s__law_tree ["_law_kind"] := defAt (PySem.W.mg_of X G a5) l5 c5 k5 (fun _ _ _ _ _ _ us hl => match us, hl with | [_], _ => rfl)
  have d__law_line : DefAt K mg "_law_line" s__law_line ["_law_owners_here", "_law_make"] := defAt (PySem.W.mg_of X G a6) l6 c6 k6 (fun _ _ _ _ _ _ us hl => match us, hl with | [_, _], _ => rfl)
  have d__law_owners : DefAt K mg "_law_owners" s__law_owners ["_law_script", "_law_most"] := defAt (PySem.W.mg_of X G a7) l7 c7 k7 (fun _ _ _ _ _ _ us hl => match us, hl with | [_, _], _ => rfl)
  have d__law_built : DefAt K mg "_law_built" s__law_built ["_law_kind", "_law_owners_here"] := defAt (PySem.W.mg_of X G a8) l8 c8 k8 (fun _ _ _ _ _ _ us hl => match us, hl with | [_, _], _ => rfl)
  have d__law_asked : DefAt K mg "_law_asked" s__law_asked ["_law_tree_here", "_law_way", "_law_one", "_law_other"] := defAt (PySem.W.mg_of X G a9) l9 c9 k9 (fun _ _ _ _ _ _ us hl => match us, hl with | [_, _, _, _], _ => rfl)
  have d__law_told : DefAt K mg "_law_told" s__law_told ["_law_tree_here", "_law_way", "_law_one", "_law_other"] := defAt (PySem.W.mg_of X G a10) l10 c10 k10 (fun _ _ _ _ _ _ us hl => match us, hl with | [_, _, _, _], _ => rfl)
  have d__law_bad : DefAt K mg "_law_bad" s__law_bad ["_law_box_here", "_law_many"] := defAt (PySem.W.mg_of X G a11) l11 c11 k11 (fun _ _ _ _ _ _ us hl => match us, hl with | [_, _], _ => rfl)
  have d__law_right : DefAt K mg "_law_right" s__law_right ["_law_box_here", "_law_tree_here", "_law_kind", "_law_owners_here"] := defAt (PySem.W.mg_of X G a12) l12 c12 k12 (fun _ _ _ _ _ _ us hl => match us, hl with | [_, _, _, _], _ => rfl)
  have d__law_steps_right : DefAt K mg "_law_steps_right" s__law_steps_right ["_law_box_here", "_law_tree_here", "_law_kind", "_law_owners_here"] := defAt (PySem.W.mg_of X G a13) l13 c13 k13 (fun _ _ _ _ _ _ us hl => match us, hl with | [_, _, _, _], _ => rfl)
  have F_law := fun_mk (st := s_law) l14 c14 k14
  have cl_CM : Cls K CM := ⟨pg_CM, hd_CM, po_CM, sa_CM⟩
  have cl_CL : Cls K CL := ⟨pg_CL, hd_CL, po_CL, sa_CL⟩
  have F_CM_many := fun_mk (st := s_MakeTree_many) l_CM_many c_CM_many k_CM_many
  have B_CM_many : Binds K _ ["self"] [] := F_CM_many.binds (ps := ["self"]) (fun _ _ _ _ _ _ us hl => match us, hl with | [_], _ => rfl)
  have M_CM_many : MAt K CM "many" "MakeTree.many" s_MakeTree_many ["self"] := ⟨_, _, F_CM_many, ⟨m_CM_many, y_CM_many, k_CM_many⟩, B_CM_many⟩
  have M_CM_many_CL : MAt K CL "many" "MakeTree.many" s_MakeTree_many ["self"] := ⟨_, _, F_CM_many, ⟨m_CM_many_CL, y_CM_many, k_CM_many⟩, B_CM_many⟩
  have F_CM_need_make := fun_mk (st := s_MakeTree__need_make) l_CM_need_make c_CM_need_make k_CM_need_make
  have B_CM_need_make : Binds K _ ["self", "make"] [] := F_CM_need_make.binds (ps := ["self", "make"]) (fun _ _ _ _ _ _ us hl => match us, hl with | [_, _], _ => rfl)
  have M_CM_need_make : MAt K CM "_need_make" "MakeTree._need_make" s_MakeTree__need_make ["self", "make"] := ⟨_, _, F_CM_need_make, ⟨m_CM_need_make, y_CM_need_make, k_CM_need_make⟩, B_CM_need_make⟩
  have M_CM_need_make_CL : MAt K CL "_need_make" "MakeTree._need_make" s_MakeTree__need_make ["self", "make"] := ⟨_, _, F_CM_need_make, ⟨m_CM_need_make_CL, y_CM_need_make, k_CM_need_make⟩, B_CM_need_make⟩
  have F_CM_need_steps := fun_mk (st := s_MakeTree__need_steps) l_CM_need_steps c_CM_need_steps k_CM_need_steps
  have B_CM_need_steps : Binds K _ ["self", "make", "steps"] [] := F_CM_need_steps.binds (ps := ["self", "make", "steps"]) (fun _ _ _ _ _ _ us hl => match us, hl with | [_, _, _], _ => rfl)
  have M_CM_need_steps : MAt K CM "_need_steps" "MakeTree._need_steps" s_MakeTree__need_steps ["self", "make", "steps"] := ⟨_, _, F_CM_need_steps, ⟨m_CM_need_steps, y_CM_need_steps, k_CM_need_steps⟩, B_CM_need_steps⟩
  have M_CM_need_steps_CL : MAt K CL "_need_steps" "MakeTree._need_steps" s_MakeTree__need_steps ["self", "make", "steps"] := ⟨_, _, F_CM_need_steps, ⟨m_CM_need_steps_CL, y_CM_need_steps, k_CM_need_steps⟩, B_CM_need_steps⟩
  have F_CM_own := fun_mk (st := s_MakeTree_own) l_CM_own c_CM_own k_CM_own
  have B_CM_own : Binds K _ ["self", "make"] [] := F_CM_own.binds (ps := ["self", "make"]) (fun _ _ _ _ _ _ us hl => match us, hl with | [_, _], _ => rfl)
  have M_CM_own : MAt K CM "own" "MakeTree.own" s_MakeTree_own ["self", "make"] := ⟨_, _, F_CM_own, ⟨m_CM_own, y_CM_own, k_CM_own⟩, B_CM_own⟩
  have M_CM_own_CL : MAt K CL "own" "MakeTree.own" s_MakeTree_own ["self", "make"] := ⟨_, _, F_CM_own, ⟨m_CM_own_CL, y_CM_own, k_CM_own⟩, B_CM_own⟩
  have F_CM_depth := fun_mk (st := s_MakeTree_depth) l_CM_depth c_CM_depth k_CM_depth
  have B_CM_depth : Binds K _ ["self", "make"] [] := F_CM_depth.binds (ps := ["self", "make"]) (fun _ _ _ _ _ _ us hl => match us, hl with | [_, _], _ => rfl)
  have M_CM_depth : MAt K CM "depth" "MakeTree.depth" s_MakeTree_depth ["self", "make"] := ⟨_, _, F_CM_depth, ⟨m_CM_depth, y_CM_depth, k_CM_depth⟩, B_CM_depth⟩
  have M_CM_depth_CL : MAt K CL "depth" "MakeTree.depth" s_MakeTree_depth ["self", "make"] := ⟨_, _, F_CM_depth, ⟨m_CM_depth_CL, y_CM_depth, k_CM_depth⟩, B_CM_depth⟩
  have F_CM_on := fun_mk (st := s_MakeTree_on) l_CM_on c_CM_on k_CM_on
  have B_CM_on : Binds K _ ["self", "make"] [] := F_CM_on.binds (ps := ["self", "make"]) (fun _ _ _ _ _ _ us hl => match us, hl with | [_, _], _ => rfl)
  have M_CM_on : MAt K CM "on" "MakeTree.on" s_MakeTree_on ["self", "make"] := ⟨_, _, F_CM_on, ⟨m_CM_on, y_CM_on, k_CM_on⟩, B_CM_on⟩
  have M_CM_on_CL : MAt K CL "on" "MakeTree.on" s_MakeTree_on ["self", "make"] := ⟨_, _, F_CM_on, ⟨m_CM_on_CL, y_CM_on, k_CM_on⟩, B_CM_on⟩
  have F_CM_line := fun_mk (st := s_MakeTree_line) l_CM_line c_CM_line k_CM_line
  have B_CM_line : Binds K _ ["self", "make"] [] := F_CM_line.binds (ps := ["self", "make"]) (fun _ _ _ _ _ _ us hl => match us, hl with | [_, _], _ => rfl)
  have M_CM_line : MAt K CM "line" "MakeTree.line" s_MakeTree_line ["self", "make"] := ⟨_, _, F_CM_line, ⟨m_CM_line, y_CM_line, k_CM_line⟩, B_CM_line⟩
  have M_CM_line_CL : MAt K CL "line" "MakeTree.line" s_MakeTree_line ["self", "make"] := ⟨_, _, F_CM_line, ⟨m_CM_line_CL, y_CM_line, k_CM_line⟩, B_CM_line⟩
  have F_CM_up := fun_mk (st := s_MakeTree_up) l_CM_up c_CM_up k_CM_up
  have B_CM_up : Binds K _ ["self", "make", "steps"] [] := F_CM_up.binds (ps := ["self", "make", "steps"]) (fun _ _ _ _ _ _ us hl => match us, hl with | [_, _, _], _ => rfl)
  have M_CM_up : MAt K CM "up" "MakeTree.up" s_MakeTree_up ["self", "make", "steps"] := ⟨_, _, F_CM_up, ⟨m_CM_up, y_CM_up, k_CM_up⟩, B_CM_up⟩
  have M_CM_up_CL : MAt K CL "up" "MakeTree.up" s_MakeTree_up ["self", "make", "steps"] := ⟨_, _, F_CM_up, ⟨m_CM_up_CL, y_CM_up, k_CM_up⟩, B_CM_up⟩
  have F_CM_nearest := fun_mk (st := s_MakeTree_nearest) l_CM_nearest c_CM_nearest k_CM_nearest
  have B_CM_nearest : Binds K _ ["self", "one", "other"] [] := F_CM_nearest.binds (ps := ["self", "one", "other"]) (fun _ _ _ _ _ _ us hl => match us, hl with | [_, _, _], _ => rfl)
  have M_CM_nearest : MAt K CM "nearest" "MakeTree.nearest" s_MakeTree_nearest ["self", "one", "other"] := ⟨_, _, F_CM_nearest, ⟨m_CM_nearest, y_CM_nearest, k_CM_nearest⟩, B_CM_nearest⟩
  have M_CM_nearest_CL : MAt K CL "nearest" "MakeTree.nearest" s_MakeTree_nearest ["self", "one", "other"] := ⟨_, _, F_CM_nearest, ⟨m_CM_nearest_CL, y_CM_nearest, k_CM_nearest⟩, B_CM_nearest⟩
  have F_CM_way := fun_mk (st := s_MakeTree_way) l_CM_way c_CM_way k_CM_way
  have B_CM_way : Binds K _ ["self", "one", "other"] [] := F_CM_way.binds (ps := ["self", "one", "other"]) (fun _ _ _ _ _ _ us hl => match us, hl with | [_, _, _], _ => rfl)
  have M_CM_way : MAt K CM "way" "MakeTree.way" s_MakeTree_way ["self", "one", "other"] := ⟨_, _, F_CM_way, ⟨m_CM_way, y_CM_way, k_CM_way⟩, B_CM_way⟩
  have M_CM_way_CL : MAt K CL "way" "MakeTree.way" s_MakeTree_way ["self", "one", "other"] := ⟨_, _, F_CM_way, ⟨m_CM_way_CL, y_CM_way, k_CM_way⟩, B_CM_way⟩
  have F_CM_apart := fun_mk (st := s_MakeTree_apart) l_CM_apart c_CM_apart k_CM_apart
  have B_CM_apart : Binds K _ ["self", "one", "other"] [] := F_CM_apart.binds (ps := ["self", "one", "other"]) (fun _ _ _ _ _ _ us hl => match us, hl with | [_, _, _], _ => rfl)
  have M_CM_apart : MAt K CM "apart" "MakeTree.apart" s_MakeTree_apart ["self", "one", "other"] := ⟨_, _, F_CM_apart, ⟨m_CM_apart, y_CM_apart, k_CM_apart⟩, B_CM_apart⟩
  have M_CM_apart_CL : MAt K CL "apart" "MakeTree.apart" s_MakeTree_apart ["self", "one", "other"] := ⟨_, _, F_CM_apart, ⟨m_CM_apart_CL, y_CM_apart, k_CM_apart⟩, B_CM_apart⟩
  have F_CM_grow := fun_mk (st := s_MakeTree_grow) l_CM_grow c_CM_grow k_CM_grow
  have B_CM_grow : Binds K _ ["self", "make"] [] := F_CM_grow.binds (ps := ["self", "make"]) (fun _ _ _ _ _ _ us hl => match us, hl with | [_, _], _ => rfl)
  have M_CM_grow : MAt K CM "grow" "MakeTree.grow" s_MakeTree_grow ["self", "make"] := ⟨_, _, F_CM_grow, ⟨m_CM_grow, y_CM_grow, k_CM_grow⟩, B_CM_grow⟩
  have F_CM_init := fun_mk (st := s_MakeTree___init__) l_CM_init c_CM_init k_CM_init
  have B_CM_init : Binds K _ ["self"] [] := F_CM_init.binds (ps := ["self"]) (fun _ _ _ _ _ _ us hl => match us, hl with | [_], _ => rfl)
  have M_CM_init : MAt K CM "__init__" "MakeTree.__init__" s_MakeTree___init__ ["self"] := ⟨_, _, F_CM_init, ⟨m_CM_init, y_CM_init, k_CM_init⟩, B_CM_init⟩
  have F_CL_leaps_through := fun_mk (st := s_LeapTree__leaps_through) l_CL_leaps_through c_CL_leaps_through k_CL_leaps_through
  have B_CL_leaps_through : Binds K _ ["self", "own"] [] := F_CL_leaps_through.binds (ps := ["self", "own"]) (fun _ _ _ _ _ _ us hl => match us, hl with | [_, _], _ => rfl)
  have M_CL_leaps_through : MAt K CL "_leaps_through" "LeapTree._leaps_through" s_LeapTree__leaps_through ["self", "own"] := ⟨_, _, F_CL_leaps_through, ⟨m_CL_leaps_through, y_CL_leaps_through, k_CL_leaps_through⟩, B_CL_leaps_through⟩
  have F_CL_leaps := fun_mk (st := s_LeapTree_leaps) l_CL_leaps c_CL_leaps k_CL_leaps
  have B_CL_leaps : Binds K _ ["self", "make"] [] := F_CL_leaps.binds (ps := ["self", "make"]) (fun _ _ _ _ _ _ us hl => match us, hl with | [_, _], _ => rfl)
  have M_CL_leaps : MAt K CL "leaps" "LeapTree.leaps" s_LeapTree_leaps ["self", "make"] := ⟨_, _, F_CL_leaps, ⟨m_CL_leaps, y_CL_leaps, k_CL_leaps⟩, B_CL_leaps⟩
  have F_CL_leap_way := fun_mk (st := s_LeapTree_leap_way) l_CL_leap_way c_CL_leap_way k_CL_leap_way
  have B_CL_leap_way : Binds K _ ["self", "make", "steps"] [] := F_CL_leap_way.binds (ps := ["self", "make", "steps"]) (fun _ _ _ _ _ _ us hl => match us, hl with | [_, _, _], _ => rfl)
  have M_CL_leap_way : MAt K CL "leap_way" "LeapTree.leap_way" s_LeapTree_leap_way ["self", "make", "steps"] := ⟨_, _, F_CL_leap_way, ⟨m_CL_leap_way, y_CL_leap_way, k_CL_leap_way⟩, B_CL_leap_way⟩
  have S_CL_grow : SAt l.prog K CL "grow" "LeapTree.grow" s_LeapTree_grow ["self", "make"] f_CM_grow := ⟨f_CL_grow, cc_CL_grow, co_CL_grow, oc_CL_grow, od_CL_grow, dc_CL_grow, pm_CL_grow, an_CL_grow, ct_CL_grow, sl_CL_grow,
    { fn := ⟨oc_CL_grow, od_CL_grow, dc_CL_grow, pm_CL_grow, an_CL_grow, ct_CL_grow, sl_CL_grow, l_CL_grow⟩, cl := rfl, code := c_CL_grow, cod := ⟨ccl_CL_grow, cdd_CL_grow, vs_CL_grow, ccs_CL_grow, file_CL_grow, tf_CL_grow, dl_CL_grow, fv_CL_grow, fl_CL_grow⟩, cell := ⟨cv_CL_grow, cld_CL_grow, csl_CL_grow, zc_CL_grow⟩, isD := ⟨ic_CL, by simp [PySem.W.clsIn, x_CL]⟩, sub := mm_CL, sup := su_CL_grow, ty := ty_CL_grow, fg := fg_CL_grow, op := op, zs := zs, htop := htop,
      hm := by decide, hks := by rfl, hkc := by rfl, hself := by rfl, arg := ⟨_, rfl, rfl⟩ }, l_CL_grow, ⟨m_CL_grow, y_CL_grow, k_CL_grow⟩, .all fun us hl => match us, hl with | [_, _], _ => rfl⟩
  have S_CL_init : SAt l.prog K CL "__init__" "LeapTree.__init__" s_LeapTree___init__ ["self"] f_CM_init := ⟨f_CL_init, cc_CL_init, co_CL_init, oc_CL_init, od_CL_init, dc_CL_init, pm_CL_init, an_CL_init, ct_CL_init, sl_CL_init,
    { fn := ⟨oc_CL_init, od_CL_init, dc_CL_init, pm_CL_init, an_CL_init, ct_CL_init, sl_CL_init, l_CL_init⟩, cl := rfl, code := c_CL_init, cod := ⟨ccl_CL_init, cdd_CL_init, vs_CL_init, ccs_CL_init, file_CL_init, tf_CL_init, dl_CL_init, fv_CL_init, fl_CL_init⟩, cell := ⟨cv_CL_init, cld_CL_init, csl_CL_init, zc_CL_init⟩, isD := ⟨ic_CL, by simp [PySem.W.clsIn, x_CL]⟩, sub := mm_CL, sup := su_CL_init, ty := ty_CL_init, fg := fg_CL_init, op := op, zs := zs, htop := htop,
      hm := by decide, hks := by rfl, hkc := by rfl, hself := by rfl, arg := ⟨_, rfl, rfl⟩ }, l_CL_init, ⟨m_CL_init, y_CL_init, k_CL_init⟩, .all fun us hl => match us, hl with | [_], _ => rfl⟩
  have EK : ErrTxt l.prog K CK fK "NoMake.__init__" _ :=
    { cls := ⟨nmK, qK, NK, bsK, _, snK, subK, abK, colK, ddK, m0K, m1K, m2K, m3K, m5K, xK, by rfl⟩, sa := saK, ga := gaK, gg := ggK, noN := nnK, iC := iiK, tC := ttK, kC := kkK, exC := eeK, veC := veK, tyC := tyK, hdC := hdK, sub := mmK, sup := suK, op := op, zs := zs, htop := htop,
      fn := ⟨ocK, odK, dcK, pmK, anK, cdaK, ccK, ctK, slK, kdK, p1K, p2K, p3K, p4K, p5K, p6K, q1K, q2K, q3K, q4K, r1K, r2K, cclK, clK, cddK, cldK, vsK, ccsK, cslK, fileK, tfK, llK, ciK, dlK, fvK, flK, zcK, plK⟩ }
  have EN : ErrTxt l.prog K CN fN "NoNumber.__init__" _ :=
    { cls := ⟨nmN, qN, NN, bsN, _, snN, subN, abN, colN, ddN, m0N, m1N, m2N, m3N, m5N, xN, by rfl⟩, sa := saN, ga := gaN, gg := ggN, noN := nnN, iC := iiN, tC := ttN, kC := kkN, exC := eeN, veC := veN, tyC := tyN, hdC := hdN, sub := mmN, sup := suN, op := op, zs := zs, htop := htop,
      fn := ⟨ocN, odN, dcN, pmN, anN, cdaN, ccN, ctN, slN, kdN, p1N, p2N, p3N, p4N, p5N, p6N, q1N, q2N, q3N, q4N, r1N, r2N, cclN, clN, cddN, cldN, vsN, ccsN, cslN, fileN, tfN, llN, ciN, dlN, fvN, flN, zcN, plN⟩ }
  have ET : Gc.ErrTxt l.prog K CT fT "TooMany.__init__" _ :=
    { cls := ⟨nmT, qT, NT, bsT, _, snT, subT, abT, colT, ddT, m0T, m1T, m2T, m3T, m5T, xT, by rfl⟩, sa := saT, ga := gaT, gg := ggT, noN := nnT, iC := iiT, tC := ttT, kC := kkT, exC := eeT, veC := veT, tyC := tyT, hdC := hdT, sub := mmT, sup := suT, op := op, zs := zs, htop := htop,
      fn := ⟨ocT, odT, dcT, pmT, anT, cdaT, ccT, ctT, slT, kdT, p1T, p2T, p3T, p4T, p5T, p6T, q1T, q2T, q3T, q4T, r1T, r2T, cclT, clT, cddT, cldT, vsT, ccsT, cslT, fileT, tfT, llT, ciT, dlT, fvT, flT, zcT, plT⟩ }
  refine ⟨PySem.W.fnOf "law" "law" (defArgs s_law) (defBody s_law) (defScope s_law) .none kV14 dc14 pm14 an14 cd14 ct14, fun s v => .of_eq rfl, fun base _ _ => ?_⟩
  have T : Txt K mg := ⟨PySem.W.mg_none_of X G z_len, PySem.W.mg_none_of X G z_max, PySem.W.mg_none_of X G z_min, PySem.W.mg_none_of X G z_range, PySem.W.mg_none_of X G z_repr, PySem.W.mg_none_of X G z_zip, PySem.W.mg_none_of X G z_isinstance, PySem.W.mg_none_of X G z_int, PySem.W.mg_none_of X G z_bool, PySem.W.mg_none_of X G z_list, PySem.W.mg_none_of X G z_reversed, ⟨t_MOST_MAKES, PySem.W.mg_of X G i_MOST_MAKES⟩⟩
  have RK : ErrK l.prog K mg CK fK := ⟨EK, PySem.W.mg_of X G aK⟩
  have RN : ErrN l.prog K mg CN fN CE := ⟨EN, ⟨h1N, h2N, h3N, h4N⟩, PySem.W.mg_of X G aN, PySem.W.mg_of X G aE, kit_self, exm_above smN iE yE eE⟩
  have RT : ErrT l.prog K mg CT fT := ⟨ET, PySem.W.mg_of X G aT⟩
  have Q : ErrQ K mg CK CN CT CE := ⟨PySem.W.mg_of X G aN, PySem.W.mg_of X G aE, exm_self icK tyK eeK ssK, exm_no ksNK icK tyK eeK, exm_self icN tyN eeN ssN, exm_no ksTK icK tyK eeK, exm_no ksTN icN tyN eeN, exm_self icT tyT eeT ssT⟩
  have c_cell := ok_cell (P := l.prog) (w := w) (base := base) T d__law_cell
  have c_box := ok_box (P := l.prog) (w := w) (base := base) T d__law_box
  have c_take := ok_take (P := l.prog) (w := w) (base := base) T d__law_take
  have c_pick := ok_pick T c_take d__law_pick
  have c_line := ok_lline (P := l.prog) (w := w) (base := base) T d__law_line
  have c_owners := ok_owners T c_cell c_box c_take c_pick d__law_owners
  have c_whI := ok_whI (P := l.prog) (w := w) (base := base) T d_is_whole
  have c_whole := ok_whole (P := l.prog) (w := w) (base := base) T d_is_whole
  have thr := ok_through (P := l.prog) (w := w) (base := base) T (⟨cl_CL, no_CL__owns, no_CL__depths, no_CL__on, no_CL__leaps⟩ : TreeC K CL) M_CL_leaps_through
  have TC_CM : TreeC K CM := ⟨cl_CM, no_CM__owns, no_CM__depths, no_CM__on, no_CM__leaps⟩
  have many_CM := ok_many (P := l.prog) (w := w) (base := base) T TC_CM M_CM_many
  have need_CM := ok_need T TC_CM c_whI many_CM M_CM_need_make
  have own_CM := ok_own T TC_CM need_CM M_CM_own
  have line_CM := ok_line T TC_CM need_CM M_CM_line
  have steps_CM := ok_steps T RN TC_CM c_whole M_CM_need_steps
  have needB_CM := ok_needB T RK TC_CM c_whole many_CM M_CM_need_make
  have nearB_CM := ok_nearB T TC_CM needB_CM need_CM M_CM_nearest
  have near2_CM := ok_near2 T TC_CM needB_CM need_CM M_CM_nearest
  have wayB_CM := ok_wayB T TC_CM nearB_CM line_CM M_CM_way
  have way2_CM := ok_way2 T TC_CM near2_CM line_CM M_CM_way
  have TC_CL : TreeC K CL := ⟨cl_CL, no_CL__owns, no_CL__depths, no_CL__on, no_CL__leaps⟩
  have many_CL := ok_many (P := l.prog) (w := w) (base := base) T TC_CL M_CM_many_CL
  have need_CL := ok_need T TC_CL c_whI many_CL M_CM_need_make_CL
  have own_CL := ok_own T TC_CL need_CL M_CM_own_CL
  have line_CL := ok_line T TC_CL need_CL M_CM_line_CL
  have steps_CL := ok_steps T RN TC_CL c_whole M_CM_need_steps_CL
  have needB_CL := ok_needB T RK TC_CL c_whole many_CL M_CM_need_make_CL
  have nearB_CL := ok_nearB T TC_CL needB_CL need_CL M_CM_nearest_CL
  have near2_CL := ok_near2 T TC_CL needB_CL need_CL M_CM_nearest_CL
  have wayB_CL := ok_wayB T TC_CL nearB_CL line_CL M_CM_way_CL
  have way2_CL := ok_way2 T TC_CL near2_CL line_CL M_CM_way_CL
  have grow_M := ok_grow T TC_CM many_CM need_CM M_CM_grow
  have grow_L := okL_grow T TC_CL many_CL need_CL thr F_CM_grow B_CM_grow S_CL_grow
  have init_M := fn_init (P := l.prog) (w := w) (base := base) T TC_CM F_CM_init
  obtain ⟨fi, fdi, me, bi, Fi⟩ := okL_init (P := l.prog) (w := w) (base := base) T TC_CL F_CM_init B_CM_init S_CL_init
  have kinds : Kinds l.prog w K mg base CM CL :=
    { cM := PySem.W.mg_of X G a_CM, cL := PySem.W.mg_of X G a_CL, iM := ⟨_, _, ⟨mk_CM, m_CM_init, y_CM_init, kp_CM⟩, B_CM_init, init_M⟩, iL := ⟨fi, fdi, ⟨mk_CL, me.at_, me.fn, kp_CL⟩, bi, Fi⟩, gM := grow_M, gL := grow_L }
  have doors_CM : Doors l.prog w K mg base CK CN CT CM :=
    { grow := ok_growB T RT TC_CM many_CM needB_CM M_CM_grow, full := ok_full T RT TC_CM many_CM need_CM M_CM_grow, own := ok_ownB T TC_CM needB_CM M_CM_own, depth := ok_depthB T TC_CM needB_CM M_CM_depth, on := ok_onB T TC_CM needB_CM M_CM_on, line := ok_lineB T TC_CM needB_CM M_CM_line, up := ok_upB T TC_CM needB_CM steps_CM line_CM M_CM_up, upS := ok_upS T TC_CM need_CM steps_CM line_CM M_CM_up,
      near := nearB_CM, near2 := near2_CM, way := wayB_CM, way2 := way2_CM, apart := ok_apartB T TC_CM wayB_CM M_CM_apart, apart2 := ok_apart2 T TC_CM way2_CM M_CM_apart }
  have doors_CL : Doors l.prog w K mg base CK CN CT CL :=
    { grow := okL_growB T RT TC_CL many_CL needB_CL thr F_CM_grow B_CM_grow S_CL_grow, full := okL_full T RT TC_CL many_CL need_CL thr F_CM_grow B_CM_grow S_CL_grow, own := ok_ownB T TC_CL needB_CL M_CM_own_CL, depth := ok_depthB T TC_CL needB_CL M_CM_depth_CL, on := ok_onB T TC_CL needB_CL M_CM_on_CL, line := ok_lineB T TC_CL needB_CL M_CM_line_CL, up := ok_upB T TC_CL needB_CL steps_CL line_CL M_CM_up_CL, upS := ok_upS T TC_CL need_CL steps_CL line_CL M_CM_up_CL,
      near := nearB_CL, near2 := near2_CL, way := wayB_CL, way2 := way2_CL, apart := ok_apartB T TC_CL wayB_CL M_CM_apart_CL, apart2 := ok_apart2 T TC_CL way2_CL M_CM_apart_CL }
  have doorsL : DoorsL l.prog w K mg base CK CN CL := ⟨ok_leapsB T TC_CL needB_CL M_CL_leaps, ok_lwB T TC_CL needB_CL steps_CL M_CL_leap_way, ok_lwS T TC_CL need_CL steps_CL M_CL_leap_way⟩
  have c_tree := ok_tree T kinds d__law_tree
  have c_built := ok_built T kinds c_tree d__law_built
  have c_ask := ok_ask T doors_CM doors_CL doorsL d__law_asked
  have c_told := ok_told T RK RN RT Q c_ask d__law_told
  have c_bad := ok_bad T c_take d__law_bad
  have c_right := ok_right T c_take c_pick c_bad c_told d__law_right
  have c_sr := ok_sr T c_take c_pick c_line c_told d__law_steps_right
  exact ok_law T F_law own_CM own_CL line_CM line_CL many_CM many_CL c_cell c_box c_take c_owners c_built c_line c_told c_right c_sr
end K10
open PySem PySem.W PyProof.Rows
set_option maxRecDepth 100000 in
set_option maxHeartbeats 0 in
theorem PySem.Challenge.cw_makeskept_k10_trees_refused_holds : PySem.Challenge.rw_makeskept_k10_trees_refused.Holds := by
  w_on; o_law; k_head; (case hw => w_witness2)
  k_fill
  refine Gd.walkG (l := PySem.Challenge.rw_makeskept_k10_trees_refused) (n := 63) (k := 9) (x := "_law_script") (CX := fun _ => L2.CX0) (sp := fun w => K10.spLaw _) rfl (by decide) rfl ⟨rfl, by decide, by decide⟩ (fun w h Y => PySem.W.kIn_of Y) ?F (fun _ _ a ns hl _ hS => ⟨a, ns, rfl, hS, hl, fun _ => rfl⟩) (fun _ _ _ _ _ h => h)
  case F =>
    intro w mg fa h KX G hmg
    refine' K10.all_mk KX G hmg ?a0 ?l0 ?c0 ?k0 ?a1 ?l1 ?c1 ?k1 ?a2 ?l2 ?c2 ?k2 ?a3 ?l3 ?c3 ?k3 ?a4 ?l4 ?c4 ?k4 ?a5 ?l5 ?c5 ?k5 ?a6 ?l6 ?c6 ?k6 ?a7 ?l7 ?c7 ?k7 ?a8 ?l8 ?c8 ?k8 ?a9 ?l9 ?c9 ?k9 ?a10 ?l10 ?c10 ?k10 ?a11 ?l11 ?c11 ?k11 ?a12 ?l12 ?c12 ?k12 ?a13 ?l13 ?c13 ?k13 ?a14 ?l14 ?c14 ?k14 ?z_len ?z_max ?z_min ?z_range ?z_repr ?z_zip ?z_isinstance ?z_int ?z_bool ?z_list ?z_reversed ?i_MOST_MAKES ?a_CM ?pg_CM ?hd_CM ?po_CM ?sa_CM ?no_CM__owns ?no_CM__depths ?no_CM__on ?no_CM__leaps ?mk_CM ?kp_CM ?a_CL ?pg_CL ?hd_CL ?po_CL ?sa_CL ?no_CL__owns ?no_CL__depths ?no_CL__on ?no_CL__leaps ?mk_CL ?kp_CL ?m_CM_many ?l_CM_many ?c_CM_many ?k_CM_many ?y_CM_many ?m_CM_many_CL ?m_CM_need_make ?l_CM_need_make ?c_CM_need_make ?k_CM_need_make ?y_CM_need_make ?m_CM_need_make_CL ?m_CM_need_steps ?l_CM_need_steps ?c_CM_need_steps ?k_CM_need_steps ?y_CM_need_steps ?m_CM_need_steps_CL ?m_CM_own ?l_CM_own ?c_CM_own ?k_CM_own ?y_CM_own ?m_CM_own_CL ?m_CM_depth ?l_CM_depth ?c_CM_depth ?k_CM_depth ?y_CM_depth ?m_CM_depth_CL ?m_CM_on ?l_CM_on ?c_CM_on ?k_CM_on ?y_CM_on ?m_CM_on_CL ?m_CM_line ?l_CM_line ?c_CM_line ?k_CM_line ?y_CM_line ?m_CM_line_CL ?m_CM_up ?l_CM_up ?c_CM_up ?k_CM_up ?y_CM_up ?m_CM_up_CL ?m_CM_nearest ?l_CM_nearest ?c_CM_nearest ?k_CM_nearest ?y_CM_nearest ?m_CM_nearest_CL ?m_CM_way ?l_CM_way ?c_CM_way ?k_CM_way ?y_CM_way ?m_CM_way_CL ?m_CM_apart ?l_CM_apart ?c_CM_apart ?k_CM_apart ?y_CM_apart ?m_CM_apart_CL ?m_CM_grow ?l_CM_grow ?c_CM_grow ?k_CM_grow ?y_CM_grow ?m_CM_init ?l_CM_init ?c_CM_init ?k_CM_init ?y_CM_init ?m_CL_leaps_through ?l_CL_leaps_through ?c_CL_leaps_through ?k_CL_leaps_through ?y_CL_leaps_through ?m_CL_leaps ?l_CL_leaps ?c_CL_leaps ?k_CL_leaps ?y_CL_leaps ?m_CL_leap_way ?l_CL_leap_way ?c_CL_leap_way ?k_CL_leap_way ?y_CL_leap_way ?op ?zs ?htop ?x_CL ?mm_CL ?m_CL_grow ?l_CL_grow ?c_CL_grow ?y_CL_grow ?k_CL_grow ?dl_CL_grow ?fv_CL_grow ?fl_CL_grow ?zc_CL_grow ?su_CL_grow ?ty_CL_grow ?fg_CL_grow ?m_CL_init ?l_CL_init ?c_CL_init ?y_CL_init ?k_CL_init ?dl_CL_init ?fv_CL_init ?fl_CL_init ?zc_CL_init ?su_CL_init ?ty_CL_init ?fg_CL_init ?aE ?iE ?yE ?eE ?aK ?xK ?saK ?gaK ?ggK ?nnK ?iiK ?ttK ?kkK ?eeK ?veK ?tyK ?hdK ?mmK ?suK ?llK ?ciK ?dlK ?fvK ?flK ?zcK ?plK ?h1K ?h2K ?h3K ?h4K ?smK ?aN ?xN ?saN ?gaN ?ggN ?nnN ?iiN ?ttN ?kkN ?eeN ?veN ?tyN ?hdN ?mmN ?suN ?llN ?ciN ?dlN ?fvN ?flN ?zcN ?plN ?h1N ?h2N ?h3N ?h4N ?smN ?aT ?xT ?saT ?gaT ?ggT ?nnT ?iiT ?ttT ?kkT ?eeT ?veT ?tyT ?hdT ?mmT ?suT ?llT ?ciT ?dlT ?fvT ?flT ?zcT ?plT ?h1T ?h2T ?h3T ?h4T ?smT ?ssK ?icK ?ssN ?icN ?ssT ?icT ?ksNK ?ksTK ?ksTN
    (case a0 => k_is)
    (case l0 => k_is)
    (case c0 => k_is)
    (case k0 => k_is)
    (case a1 => k_is)
    (case l1 => k_is)
    (case c1 => k_is)
    (case k1 => k_is)
    (case a2 => k_is)
    (case l2 => k_is)
    (case c2 => k_is)
    (case k2 => k_is)
    (case a3 => k_is)
    (case l3 => k_is)
    (case c3 => k_is)
    (case k3 => k_is)
    (case a4 => k_is)
    (case l4 => k_is)
    (case c4 => k_is)
    (case k4 => k_is)
    (case a5 => k_is)
    (case l5 => k_is)
    (case c5 => k_is)
    (case k5 => k_is)
    (case a6 => k_is)
    (case l6 => k_is)
    (case c6 => k_is)
    (case k6 => k_is)
    (case a7 => k_is)
    (case l7 => k_is)
    (case c7 => k_is)
    (case k7 => k_is)
    (case a8 => k_is)
    (case l8 => k_is)
    (case c8 => k_is)
    (case k8 => k_is)
    (case a9 => k_is)
    (case l9 => k_is)
    (case c9 => k_is)
    (case k9 => k_is)
    (case a10 => k_is)
    (case l10 => k_is)
    (case c10 => k_is)
    (case k10 => k_is)
    (case a11 => k_is)
    (case l11 => k_is)
    (case c11 => k_is)
    (case k11 => k_is)
    (case a12 => k_is)
    (case l12 => k_is)
    (case c12 => k_is)
    (case k12 => k_is)
    (case a13 => k_is)
    (case l13 => k_is)
    (case c13 => k_is)
    (case k13 => k_is)
    (case a14 => k_is)
    (case l14 => k_is)
    (case c14 => k_is)
    (case k14 => k_is)
    (case z_len => k_is)
    (case z_max => k_is)
    (case z_min => k_is)
    (case z_range => k_is)
    (case z_repr => k_is)
    (case z_zip => k_is)
    (case z_isinstance => k_is)
    (case z_int => k_is)
    (case z_bool => k_is)
    (case z_list => k_is)
    (case z_reversed => k_is)
    (case i_MOST_MAKES => k_is)
    (case a_CM => k_is)
    (case pg_CM => k_is)
    (case hd_CM => k_is)
    (case po_CM => k_is)
    (case sa_CM => k_is)
    (case no_CM__owns => k_is)
    (case no_CM__depths => k_is)
    (case no_CM__on => k_is)
    (case no_CM__leaps => k_is)
    (case mk_CM => k_is)
    (case kp_CM => k_is)
    (case a_CL => k_is)
    (case pg_CL => k_is)
    (case hd_CL => k_is)
    (case po_CL => k_is)
    (case sa_CL => k_is)
    (case no_CL__owns => k_is)
    (case no_CL__depths => k_is)
    (case no_CL__on => k_is)
    (case no_CL__leaps => k_is)
    (case mk_CL => k_is)
    (case kp_CL => k_is)
    (case m_CM_many => k_is)
    (case l_CM_many => k_is)
    (case c_CM_many => k_is)
    (case k_CM_many => k_is)
    (case y_CM_many => k_is)
    (case m_CM_many_CL => k_is)
    (case m_CM_need_make => k_is)
    (case l_CM_need_make => k_is)
    (case c_CM_need_make => k_is)
    (case k_CM_need_make => k_is)
    (case y_CM_need_make => k_is)
    (case m_CM_need_make_CL => k_is)
    (case m_CM_need_steps => k_is)
    (case l_CM_need_steps => k_is)
    (case c_CM_need_steps => k_is)
    (case k_CM_need_steps => k_is)
    (case y_CM_need_steps => k_is)
    (case m_CM_need_steps_CL => k_is)
    (case m_CM_own => k_is)
    (case l_CM_own => k_is)
    (case c_CM_own => k_is)
    (case k_CM_own => k_is)
    (case y_CM_own => k_is)
    (case m_CM_own_CL => k_is)
    (case m_CM_depth => k_is)
    (case l_CM_depth => k_is)
    (case c_CM_depth => k_is)
    (case k_CM_depth => k_is)
    (case y_CM_depth => k_is)
    (case m_CM_depth_CL => k_is)
    (case m_CM_on => k_is)
    (case l_CM_on => k_is)
    (case c_CM_on => k_is)
    (case k_CM_on => k_is)
    (case y_CM_on => k_is)
    (case m_CM_on_CL => k_is)
    (case m_CM_line => k_is)
    (case l_CM_line => k_is)
    (case c_CM_line => k_is)
    (case k_CM_line => k_is)
    (case y_CM_line => k_is)
    (case m_CM_line_CL => k_is)
    (case m_CM_up => k_is)
    (case l_CM_up => k_is)
    (case c_CM_up => k_is)
    (case k_CM_up => k_is)
    (case y_CM_up => k_is)
    (case m_CM_up_CL => k_is)
    (case m_CM_nearest => k_is)
    (case l_CM_nearest => k_is)
    (case c_CM_nearest => k_is)
    (case k_CM_nearest => k_is)
    (case y_CM_nearest => k_is)
    (case m_CM_nearest_CL => k_is)
    (case m_CM_way => k_is)
    (case l_CM_way => k_is)
    (case c_CM_way => k_is)
    (case k_CM_way => k_is)
    (case y_CM_way => k_is)
    (case m_CM_way_CL => k_is)
    (case m_CM_apart => k_is)
    (case l_CM_apart => k_is)
    (case c_CM_apart => k_is)
    (case k_CM_apart => k_is)
    (case y_CM_apart => k_is)
    (case m_CM_apart_CL => k_is)
    (case m_CM_grow => k_is)
    (case l_CM_grow => k_is)
    (case c_CM_grow => k_is)
    (case k_CM_grow => k_is)
    (case y_CM_grow => k_is)
    (case m_CM_init => k_is)
    (case l_CM_init => k_is)
    (case c_CM_init => k_is)
    (case k_CM_init => k_is)
    (case y_CM_init => k_is)
    (case m_CL_leaps_through => k_is)
    (case l_CL_leaps_through => k_is)
    (case c_CL_leaps_through => k_is)
    (case k_CL_leaps_through => k_is)
    (case y_CL_leaps_through => k_is)
    (case m_CL_leaps => k_is)
    (case l_CL_leaps => k_is)
    (case c_CL_leaps => k_is)
    (case k_CL_leaps => k_is)
    (case y_CL_leaps => k_is)
    (case m_CL_leap_way => k_is)
    (case l_CL_leap_way => k_is)
    (case c_CL_leap_way => k_is)
    (case k_CL_leap_way => k_is)
    (case y_CL_leap_way => k_is)
    (case op => k_is)
    (case zs => k_is)
    (case htop => first | rfl | decide +kernel)
    (case x_CL => k_is)
    (case mm_CL => k_is)
    (case m_CL_grow => k_is)
    (case l_CL_grow => k_is)
    (case c_CL_grow => k_is)
    (case y_CL_grow => k_is)
    (case k_CL_grow => k_is)
    (case dl_CL_grow => k_is)
    (case fv_CL_grow => rfl)
    (case fl_CL_grow => first | rfl | decide +kernel)
    (case zc_CL_grow => k_is)
    (case su_CL_grow => ks_is)
    (case ty_CL_grow => k_is)
    (case fg_CL_grow => k_is)
    (case m_CL_init => k_is)
    (case l_CL_init => k_is)
    (case c_CL_init => k_is)
    (case y_CL_init => k_is)
    (case k_CL_init => k_is)
    (case dl_CL_init => k_is)
    (case fv_CL_init => rfl)
    (case fl_CL_init => first | rfl | decide +kernel)
    (case zc_CL_init => k_is)
    (case su_CL_init => ks_is)
    (case ty_CL_init => k_is)
    (case fg_CL_init => k_is)
    (case aE => k_is)
    (case iE => k_is)
    (case yE => k_is)
    (case eE => k_is)
    (case aK => k_is)
    (case xK => k_is)
    (case saK => k_is)
    (case gaK => k_is)
    (case ggK => k_is)
    (case nnK => k_is)
    (case iiK => k_is)
    (case ttK => k_is)
    (case kkK => k_is)
    (case eeK => k_is)
    (case veK => k_is)
    (case tyK => k_is)
    (case hdK => k_is)
    (case mmK => k_is)
    (case suK => ks_is)
    (case llK => k_is)
    (case ciK => k_is)
    (case dlK => k_is)
    (case fvK => rfl)
    (case flK => first | rfl | decide +kernel)
    (case zcK => k_is)
    (case plK => rfl)
    (case h1K => k_is)
    (case h2K => k_is)
    (case h3K => k_is)
    (case h4K => k_is)
    (case smK => k_is)
    (case aN => k_is)
    (case xN => k_is)
    (case saN => k_is)
    (case gaN => k_is)
    (case ggN => k_is)
    (case nnN => k_is)
    (case iiN => k_is)
    (case ttN => k_is)
    (case kkN => k_is)
    (case eeN => k_is)
    (case veN => k_is)
    (case tyN => k_is)
    (case hdN => k_is)
    (case mmN => k_is)
    (case suN => ks_is)
    (case llN => k_is)
    (case ciN => k_is)
    (case dlN => k_is)
    (case fvN => rfl)
    (case flN => first | rfl | decide +kernel)
    (case zcN => k_is)
    (case plN => rfl)
    (case h1N => k_is)
    (case h2N => k_is)
    (case h3N => k_is)
    (case h4N => k_is)
    (case smN => k_is)
    (case aT => k_is)
    (case xT => k_is)
    (case saT => k_is)
    (case gaT => k_is)
    (case ggT => k_is)
    (case nnT => k_is)
    (case iiT => k_is)
    (case ttT => k_is)
    (case kkT => k_is)
    (case eeT => k_is)
    (case veT => k_is)
    (case tyT => k_is)
    (case hdT => k_is)
    (case mmT => k_is)
    (case suT => ks_is)
    (case llT => k_is)
    (case ciT => k_is)
    (case dlT => k_is)
    (case fvT => rfl)
    (case flT => first | rfl | decide +kernel)
    (case zcT => k_is)
    (case plT => rfl)
    (case h1T => k_is)
    (case h2T => k_is)
    (case h3T => k_is)
    (case h4T => k_is)
    (case smT => k_is)
    (case ssK => k_is)
    (case icK => k_is)
    (case ssN => k_is)
    (case icN => k_is)
    (case ssT => k_is)
    (case icT => k_is)
    (case ksNK => k_is)
    (case ksTK => k_is)
    (case ksTN => k_is)

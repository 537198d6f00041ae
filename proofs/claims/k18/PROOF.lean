import PyProof.Rows.All
import Wide.All
import OpenK.AllK
import Wide.FinOn
import HandS.ForMost
import HandS.IsInst
import HandS.TupLe
import PyProof.ReprLen
import KE.KExcLine
import HandS.Exc
import HandS.ExcOwn
import HandS.WordsExc
import KE.KExcIs
import HandS.TryOnly
import HandS.Nested
import KE.KSuper
import HandS.Codes
import HandS.Style
import HandS.Walk
import HandS.SetFor
import HandS.More
import HandS.WordsDict
import HandS.DictComp
import HandS.SortRule
import KE.DataMinMax
import HandS.SortInts
import HandS.TryMany
import HandS.Zip
import KE.RegKSuper
import PySem.Challenge.RW_makeskept_k18_whole_tours_and_trees
set_option Elab.async false
set_option linter.all false
set_option maxRecDepth 100000
set_option maxHeartbeats 4000000
/-! A promise of a def that is kept where nothing is being shown (no repr under way), and repr of data under it. -/
namespace Gd
open PySem PySem.Spec PyProof.Rows L2

/-- as FnOk, asked only where no repr is under way -/
structure FnG (P : Program) (w : World) (K : PySem.W.Frag) (mg : Str → Option Value) (base : Heap)
    (CX : CXT) (k : Nat) (f : Addr) (fd : FuncData) (ps : List Str) (sp : Sp) : Prop where
  arity : ∀ vs H Q E, sp vs H Q E → vs.length = ps.length
  go : ∀ (A : Around) (outer : List Env) (s : Shared) (H : Hp) (args : Args) (us : List Value) (vs : List V)
    (Q : VK) (E : XK), A.guards = some [] → Room k A → Env0 P w K mg base A outer s H →
    BindsTo s fd args (ps.zip us) → Vals vs us → sp vs H Q E →
    codeAny (model P w) A (.call (.ref f) args) (CR CX outer P w H s Q E) s

section
variable {P : Program} {w : World} {K : PySem.W.Frag} {mg : Str → Option Value} {base : Heap}
theorem FnG.low {CX : CXT} {j k : Nat} {f : Addr} {fd : FuncData} {ps : List Str} {sp : Sp}
    (F : FnG P w K mg base CX j f fd ps sp) (h : j ≤ k) : FnG P w K mg base CX k f fd ps sp :=
  ⟨F.arity, fun A o s H ar us vs Q E g r => F.go A o s H ar us vs Q E g (r.mono h)⟩
theorem FnG.ofOk {CX : CXT} {k : Nat} {f : Addr} {fd : FuncData} {ps : List Str} {sp : Sp}
    (F : FnOk P w K mg base CX k f fd ps sp) : FnG P w K mg base CX k f fd ps sp :=
  ⟨F.len, fun A o s H ar us vs Q E _ r => F.run A o s H ar us vs Q E r⟩

/-- the rule for a def, told that no repr is under way -/
theorem fnG_of {CX : CXT} {k : Nat} {f : Addr} {name qual : Str} {params : Arguments} {body : List Stmt}
    {scope : Scope} {dV kV doc pm cdv ct oc : Value} {an od : Option Addr} {osl : Array (Option Value)}
    {N ps : List Str} {sp : Sp}
    (lk : K.lookup f = some ⟨oc, od, .func (PySem.W.fnOf name qual params body scope dV kV doc pm an cdv ct), osl⟩)
    (cin : PySem.W.codeIn K cdv qual = true) (S : FnScope N ps scope)
    (ar : ∀ vs H Q E, sp vs H Q E → vs.length = ps.length)
    (bd : ∀ (A : Around) (outer : List Env) (s : Shared) (H : Hp) (vs : List V) (Q : VK) (E : XK),
      A.guards = some [] → Room k (A.deeper (envOfC qual scope s.heap.objs.size f cdv)) → sp vs H Q E →
      ∃ t, PSs (cxOf CX P w K mg base N qual scope f cdv A outer s H E) body t ∧
        t { nx := fun _ H' => Q .non H', rt := Q } (start N vs) H) :
    FnG P w K mg base CX (k + 1) f (PySem.W.fnOf name qual params body scope dV kV doc pm an cdv ct) ps sp := by
  constructor
  · exact ar
  intro A outer s H args us vs Q E hG room env bind rel prem
  have long := ar _ _ _ _ prem
  have kin : K.In s.heap := env.mod.kin.keeps fun b o z => (env.bs b o z).1
  have nl : s.heap.NoLimit := env.mod.nolimit.keeps fun b o z => (env.bs b o z).1
  have kinds : ∀ y ∈ ps.zip us, scope.names.lookup y.1 = some .local ∨
      (scope.names.lookup y.1 = some .cell ∧
        ((cellsFrom (s.heap.objs.size + 1) scope.names []).lookup y.1).isSome = true) := by
    rintro ⟨n, v⟩ hy
    cases S.par n (List.of_mem_zip hy).1 with
    | inl q => exact .inl q
    | inr q => exact .inr ⟨q, PySem.W.cellsFrom_some _ _ _ (.inl q)⟩
  apply codeAny_call_function room.depth (kin _ _ lk) rfl S.co S.gen rfl (PySem.W.codeRec_of kin cin)
  apply bind
  apply wpAny_newFunctionEnv_cells S.kind kinds
  intro en hen s1 x
  subst hen
  refine ⟨nl.keeps x.toInCall.keep, ?_⟩
  apply codeAny_func
  obtain ⟨t, der, rd⟩ := bd A outer s H vs Q E hG (room.deeper _) prem
  have J := inv_start (CX := CX) (E := E) (mg := mg) S room.hd env long rel x
  apply wpAny_mono (der.run [] s1 (start N vs) H _ J rd)
  · intro fl s' hs
    cases fl with
    | ret u =>
      obtain ⟨v, _, H', J', rv, q⟩ := hs
      exact ⟨v, H', J'.os, J'.bare, J'.base, J'.hok, rv, q⟩
    | next =>
      obtain ⟨_, H', J', q⟩ := hs
      exact ⟨.non, H', J'.os, J'.bare, J'.base, J'.hok, rfl, q⟩
    | brk =>
      obtain ⟨_, _, _, q⟩ := hs
      exact q.elim
    | cont =>
      obtain ⟨_, _, _, q⟩ := hs
      exact q.elim
  · intro e s' hs
    exact hs
theorem okG {x qual : Str} {st : Stmt} {f : Addr} {fd : FuncData} {N ps : List Str} {k : Nat} {sp : Sp}
    (F : Fun K x qual st f fd) (S : FnScope N ps (defScope st))
    (ar : ∀ vs H Q E, sp vs H Q E → vs.length = ps.length)
    (bd : ∀ (cdv : Value) (A : Around) (outer : List Env) (s : Shared) (H : Hp) (vs : List V) (Q : VK) (E : XK),
      A.guards = some [] → Room k (A.deeper (envOfC qual (defScope st) s.heap.objs.size f cdv)) → sp vs H Q E →
      ∃ t, PSs (cxOf CX0 P w K mg base N qual (defScope st) f cdv A outer s H E).nox (defBody st) t ∧
        t { nx := fun _ H' => Q .non H', rt := Q } (start N vs) H) :
    FnG P w K mg base CX0 (k + 1) f fd ps sp := by
  obtain ⟨oc, od, kV, doc, pm, an, cdv, ct, osl, rfl, lk, cin⟩ := F.ex
  apply fnG_of lk cin S ar
  intro A outer s H vs Q E hG room prem
  obtain ⟨t, der, rd⟩ := bd cdv A outer s H vs Q E hG room prem
  exact ⟨t, der.nox, rd⟩
end

section
variable {X : Cx} {CX : CXT} {k : Nat} {f : Addr} {fd : FuncData} {ps : List Str} {sp : Sp} {dvs : List V}
  {ds : List Value} {E : XK} {x : Str} {p pos : Pos} {e : Expr} {es : List Expr} {t : TA}
theorem enterG {pins : List (Addr × Obj)} {σ : L2.St} {H : Hp} {s : Shared} {Q : VK} {us : List Value} {vs : List V}
    (F : FnG X.prog X.w X.K X.mg X.base CX k f fd ps sp) (hG : X.A.guards = some []) (hr : Room k X.A)
    (hb : Binds X.K fd ps ds) (hd : Vals dvs ds) (hx : Passes CX X E) (J : Inv X pins σ H s) (rel : Vals vs us)
    (prem : sp (vs ++ dvs) H Q E) :
    wpAny (model X.prog X.w) X.A (call (.ref f) us) (EP X pins σ Q) X.xe s := by
  have rel2 : Vals (vs ++ dvs) (us ++ ds) := rel.append hd
  have long : (us ++ ds).length = ps.length := rel2.length ▸ F.arity _ _ _ _ prem
  apply wpAny_call
  apply codeAny_mono (F.go X.A X.stack s H ⟨us, []⟩ (us ++ ds) (vs ++ dvs) Q E hG hr J.env0 (hb s us J.kIn long)
    rel2 prem)
  intro r s' hq
  match r, hq with
  | .error _, hq => exact hx pins σ H s _ s' J hq
  | .ok (.ret _), hq => exact J.after hq
  | .ok .next, hq => exact hq.elim
  | .ok .brk, hq => exact hq.elim
  | .ok .cont, hq => exact hq.elim
/-- f(e, ..) of a def that keeps its promise where no repr is under way -/
theorem pe_callG (F : FnG X.prog X.w X.K X.mg X.base CX k f fd ps sp) (hG : X.A.guards = some []) (hr : Room k X.A)
    (hg : Gl X x) (hm : X.mg x = some (.ref f)) (hk : PySem.W.keepIn X.K (.ref f) = true) (hb : Binds X.K fd ps ds)
    (hd : Vals dvs ds) (hx : Passes CX X E) (ha : PA X (e :: es) t)
    (hdb : (x == ("__debug__" : Str)) = false := by decide)
    (he : starEach (e :: es) X.env = (false, eval e X.env) :: starEach es X.env := by rfl)
    (hpl : (backTo pos (starEach es X.env)).any (·.1) = false := by rfl) :
    PE X (.Call (.Name x p) (e :: es) [] pos) (tCall sp dvs E t) := by
  constructor
  intro pins s σ H Q J prem
  have arg := ha.run pos pins s σ H _ J prem
  apply wpAny_Call_Name_kw
  apply ld_glob J hg hm (hd := hdb)
  apply PySem.W.callWith_K (h₀ := X.base) J.ok.mod.kin hk (he := he) (hplain := hpl)
  apply thn arg
  rintro us s1 ⟨vs, H1, J1, rel, q⟩
  exact ⟨J1.kIn, enterG F hG hr hb hd hx J1 rel q⟩
end
end Gd
namespace Gd
open PySem PySem.Spec PyProof.Rows L2
section
variable {P : Program} {w : World} {K : PySem.W.Frag} {mg mb : Str → Option Value} {CX : CXT} {k : Nat} {fa a : Addr}
  {fd : FuncData} {x : Str} {sp : Sp} {s₁ : Shared} {vs : List Value} {ns : List Int}
/-- the law's call from one abstract heap that tracks at most the script -/
theorem callOne (kin : K.In s₁.heap) (gl : s₁.heap.Ns mainGlobals mg) (bl : s₁.heap.Ns builtinsNs mb)
    (bb : ∀ x : Str, x ≠ "__name__" → mb x = bootBuiltins x) (nl : s₁.heap.NoLimit) (gn : s₁.gens = #[])
    (at_ : s₁.heap.get? a = some { cls := .type "list", data := .seq vs.toArray }) (room : Room k callerA)
    (F : ∀ base : Heap, K.In base → base.Ns mainGlobals mg → FnG P w K mg base CX k fa fd [x] sp)
    (bind : ∀ (s : Shared) (u : Value), BindsTo s fd ⟨[u], []⟩ [(x, u)])
    (H : Hp) (only : Only H) (prem : sp [.ref a] H (fun v _ => v = .bl true) fun _ _ _ => False)
    (noX : ∀ e s', CX [] H s₁ (fun _ _ _ => False) e s' → False)
    (hok : HOk P w H s₁.heap) (here : ∀ b, H b ≠ none → b = a) (out : H a ≠ none → K.lookup a = none) :
    codeAny (model P w) callerA (.call (.ref fa) ⟨[.ref a], []⟩)
      (fun r s' => r = .ok (.ret (.bool true)) ∧ OldK s₁.heap s'.heap ∧ s'.os = s₁.os ∧ AllBare s'.gens) s₁ := by
  have free : ∀ {b : Addr} {o : Obj} {es : Array DictEntry} {ep : Nat},
      s₁.heap.get? b = some o → o.data = .dict es ep → H b = none := by
    intro b o es ep z dd
    refine Classical.byContradiction fun q => ?_
    have hb := here b q
    rw [hb, at_] at z
    injection z with z
    rw [← z] at dd
    injection dd
  have nsOf : ∀ {b : Addr} {m : Str → Option Value}, s₁.heap.Ns b m → (hidT s₁.heap H).Ns b m := by
    rintro b m ⟨o, es, ep, z, dd, r⟩
    exact ⟨o, es, ep, hidT_get z (free z dd), dd, r⟩
  have kinB : K.In (hidT s₁.heap H) := by
    intro b o z
    refine hidT_get (kin b o z) (Classical.byContradiction fun q => ?_)
    have hb := here b q
    rw [hb] at z q
    rw [out q] at z
    injection z
  have modB : Mod K mg (hidT s₁.heap H) := by
    obtain ⟨mc, l1, l2⟩ := nl
    exact ⟨kinB, nsOf gl, ⟨mb, nsOf bl, bb⟩, ⟨mc, nsOf l1, l2⟩⟩
  have env : Env0 P w K mg (hidT s₁.heap H) callerA [] s₁ H := by
    refine ⟨rfl, modB, fun b o z => of_hidT z, Nat.le_of_eq (hidT_size _ _), trivial, ?_, hok, .of_eq gn⟩
    intro b hb
    exact absurd (show b ∈ ([] : List Addr) from hb) List.not_mem_nil
  have ran := (F _ kinB (nsOf gl)).go callerA [] s₁ H ⟨[.ref a], []⟩ [.ref a] [.ref a] _ _ rfl room env
    (bind s₁ (.ref a)) (.cons rfl .nil) prem
  apply codeAny_mono ran
  intro r s' q
  match r, q with
  | .error _, q => exact (noX _ _ q).elim
  | .ok .next, q => exact q.elim
  | .ok .brk, q => exact q.elim
  | .ok .cont, q => exact q.elim
  | .ok (.ret u), q =>
    obtain ⟨v, H', os, bare, un, hok', rv, ev⟩ := q
    have ev' : v = .bl true := ev
    subst ev'
    have hu : u = Value.bool true := rv
    subst hu
    refine ⟨rfl, ?_, os, bare⟩
    apply OldK.of_keep
    intro b o z
    have nob : b ∉ ([] : List Addr) := List.not_mem_nil
    cases q : H b with
    | none => exact un.keep b o z q nob nob
    | some u =>
      cases only b with
      | inl z0 =>
        rw [q] at z0
        injection z0
      | inr z0 =>
        obtain ⟨ob, xs, z1⟩ := z0
        have y1 := (hok b _ z1).1
        have y2 := (hok' b _ (un.frzs b ob _ z1)).1
        rw [z] at y1
        injection y1 with y1
        rw [y1]
        exact y2
theorem callG (kin : K.In s₁.heap) (gl : s₁.heap.Ns mainGlobals mg) (bl : s₁.heap.Ns builtinsNs mb)
    (bb : ∀ x : Str, x ≠ "__name__" → mb x = bootBuiltins x) (nl : s₁.heap.NoLimit) (gn : s₁.gens = #[])
    (at_ : s₁.heap.get? a = some { cls := .type "list", data := .seq vs.toArray }) (hin : IntsAre vs ns)
    (short : ns.length ≤ sizeLine) (room : Room k callerA)
    (F : ∀ base : Heap, K.In base → base.Ns mainGlobals mg → FnG P w K mg base CX k fa fd [x] sp)
    (bind : ∀ (s : Shared) (u : Value), BindsTo s fd ⟨[u], []⟩ [(x, u)])
    (prem : ∀ H : Hp, Only H → SqL K H a (ns.map V.int) → sp [.ref a] H (fun v _ => v = .bl true) fun _ _ _ => False)
    (noX : ∀ H e s', CX [] H s₁ (fun _ _ _ => False) e s' → False) :
    codeAny (model P w) callerA (.call (.ref fa) ⟨[.ref a], []⟩)
      (fun r s' => r = .ok (.ret (.bool true)) ∧ OldK s₁.heap s'.heap ∧ s'.os = s₁.os ∧ AllBare s'.gens) s₁ := by
  have rv := vals_ints hin
  have lens := hin.length
  cases hk : K.lookup a with
  | some o =>
    have z := kin a o hk
    rw [at_] at z
    injection z with z
    subst z
    have only : Only (fun _ => none) := fun _ => .inl rfl
    refine callOne kin gl bl bb nl gn at_ room F bind (fun _ => none) only (prem _ only ?_) (noX _)
      (fun b u z => ?_) (fun b z => absurd rfl z) fun z => absurd rfl z
    · refine .inr ⟨_, vs.toArray, _, hk, rfl, rfl, rfl, ?_, ?_⟩
      · rw [List.size_toArray, lens]
        exact short
      · simpa using rv
    · have z' : (none : Option HO) = some u := z
      injection z'
  | none =>
    let T : HO := .frz { cls := .type "list", data := .seq vs.toArray } (.lst (ns.map V.int))
    have only : Only (fun b => if b = a then some T else none) := fun b => by
      by_cases hb : b = a
      · exact .inr ⟨_, _, if_pos hb⟩
      · exact .inl (if_neg hb)
    refine callOne kin gl bl bb nl gn at_ room F bind (fun b => if b = a then some T else none) only
      (prem _ only (.inl (.inr ⟨{ cls := .type "list", data := .seq vs.toArray }, if_pos rfl⟩))) (noX _)
      (fun b u z => ?_) (fun b z => ?_) fun _ => hk
    · by_cases hb : b = a
      · have z' : some T = some u := (if_pos hb).symm.trans z
        injection z' with z'
        subst z'
        subst hb
        refine ⟨at_, ?_, vs, _, rv, at_⟩
        rw [List.length_map]
        exact short
      · have z' : (none : Option HO) = some u := (if_neg hb).symm.trans z
        injection z'
    · refine Classical.byContradiction fun hb => z (if_neg hb)
end
/-- the goal that k_head leaves, from the law's promise under FnG -/
theorem walkG {l : PySem.W.OpenLaw} {n k : Nat} {q : Program} {loose : List Str} {XP : (Str → Option Value) → Heap → Prop}
    {YP : World → Heap → Prop} {d : DefRec} {K : Params → PySem.W.Frag} {CX : World → CXT} {sp : World → Sp} {x : Str}
    (most : l.most = some n) (line : n ≤ sizeLine) (nod : d.params.defaults = []) (room : Room k callerA)
    (kin : ∀ (w : World) (h : Heap), YP w h → (K w.params).In h)
    (F : ∀ (w : World) (mg : Str → Option Value) (fa : Addr) (h : Heap),
      (K w.params).In h → h.Ns mainGlobals mg → mg d.name = some (.ref fa) →
      ∃ fd : FuncData, (∀ (s : Shared) (u : Value), BindsTo s fd ⟨[u], []⟩ [(x, u)]) ∧
        ∀ base : Heap, (K w.params).In base → base.Ns mainGlobals mg →
          FnG l.prog w (K w.params) mg base (CX w) k fa fd [x] (sp w))
    (prem : ∀ (w : World) (H : Hp) (a : Addr) (ns : List Int), ns.length ≤ n → Only H →
      SqL (K w.params) H a (ns.map V.int) → sp w [.ref a] H (fun v _ => v = .bl true) fun _ _ _ => False)
    (noX : ∀ (w : World) (H : Hp) (s : Shared) (e : Value) (s' : Shared),
      CX w [] H s (fun _ _ _ => False) e s' → False) :
    PySem.W.WalkO q loose XP YP l.row.toRowW d [] (fun f vs => PySem.call f vs) := by
  apply Att.attach_call most nod
  intro w s₀ s₁ mg mb fa o pm cd doc a vs ns G Y ho hd hcd hmg hobj hints hlen hg
  have kx := kin w _ Y
  obtain ⟨fd, hb, hF⟩ := F w mg fa _ kx G.T.g hmg
  refine callG kx G.T.g G.T.b G.T.builtins G.T.nolimit hg hobj hints (Nat.le_trans hlen line) room hF hb ?_ ?_
  · intro H hO hS
    exact prem w H a ns hlen hO hS
  · intro H e s'
    exact noX w H s₁ e s'
end Gd
namespace Gd
open PySem PySem.Spec PyProof.Rows L2
/-- plain data, or an empty dict -/
inductive D1 (K : PySem.W.Frag) (H : Hp) : V → PyData → Prop
  | dp {v : V} {d : PyData} (h : Dp K H v d) : D1 K H v d
  | emp {a : Addr} (h : H a = some (.dK [])) : D1 K H (.ref a) (.dict [])
inductive D1s (K : PySem.W.Frag) (H : Hp) : List V → List PyData → Prop
  | nil : D1s K H [] []
  | cons {v : V} {vs : List V} {d : PyData} {ds : List PyData} : D1 K H v d → D1s K H vs ds → D1s K H (v :: vs) (d :: ds)
/-- such, or a list or a tuple of such -/
inductive D2 (K : PySem.W.Frag) (H : Hp) : V → PyData → Prop
  | d1 {v : V} {d : PyData} (h : D1 K H v d) : D2 K H v d
  | lst {a : Addr} {xs : List V} {ds : List PyData} : SqL K H a xs → D1s K H xs ds → D2 K H (.ref a) (.list ds)
  | tup {a : Addr} {xs : List V} {ds : List PyData} : SqT K H a xs → D1s K H xs ds → D2 K H (.ref a) (.tuple ds)

mutual
theorem noDict {K : PySem.W.Frag} {H : Hp} : ∀ {v : V} {d : PyData}, Dp K H v d → d.hasDict = false
  | _, _, .non => by simp only [PyData.hasDict]
  | _, _, .bl _ => by simp only [PyData.hasDict]
  | _, _, .int _ => by simp only [PyData.hasDict]
  | _, _, .str _ => by simp only [PyData.hasDict]
  | _, _, .lst _ ha => by
    simp only [PyData.hasDict]
    exact noDicts ha
  | _, _, .tup _ ha => by
    simp only [PyData.hasDict]
    exact noDicts ha
theorem noDicts {K : PySem.W.Frag} {H : Hp} : ∀ {vs : List V} {ds : List PyData}, DpAll K H vs ds → PyData.hasDictAll ds = false
  | _, _, .nil => by simp only [PyData.hasDictAll]
  | _, _, .cons h1 h2 => by simp only [PyData.hasDictAll, noDict h1, noDicts h2, Bool.or_self]
end

section
variable {X : Cx} {pins : List (Addr × Obj)} {σ : L2.St} {H : Hp} {s : Shared}
theorem D1.rd (I : Inv X pins σ H s) {v : V} {d : PyData} {u : Value} (h : D1 X.K H v d) (r : RelV v u) :
    ∃ as, Reads s.heap u d as ∧ (d.hasDict = true → sysModules ∉ as) := by
  cases h with
  | dp h =>
    obtain ⟨as, q⟩ := Dp.reads I d v u h r
    exact ⟨as, q, PyData.noDict_hsm (noDict h)⟩
  | @emp a h =>
    cases (show u = Value.ref a from r)
    obtain ⟨_, hs, vs, kv, o, es, ep, q⟩ := (show ObjOk X.prog X.w H s.heap a (.dK []) from I.hok a _ h)
    cases kv
    obtain ⟨e1, e2, e3, e4⟩ := q
    have e5 : es.toList = [] := by
      have e6 := e4.2.1
      generalize es.toList = l at e6 ⊢
      cases e6
      rfl
    refine ⟨_, Reads.dict (kvs := []) (as := []) (bs := []) e1 e2.1 e3 ?_ ?_, fun _ => ?_⟩
    · rw [e5]
      exact .nil
    · rw [e5]
      exact .nil
    · intro z
      have z' : sysModules = a := by simpa using z
      rw [← z'] at hs
      simp at hs
theorem D1s.rd (I : Inv X pins σ H s) : ∀ {vs : List V} {ds : List PyData} {us : List Value}, D1s X.K H vs ds → Vals vs us →
    ∃ as, ReadsAll s.heap us ds as
  | _, _, _, .nil, .nil => ⟨_, .nil⟩
  | _, _, _, .cons h1 h2, .cons r1 r2 => by
    obtain ⟨as, q1, _⟩ := h1.rd I r1
    obtain ⟨bs, q2⟩ := D1s.rd I h2 r2
    exact ⟨_, .cons q1 q2⟩
theorem D1.one (I : Inv X pins σ H s) {v : V} {d : PyData} {u : Value} (h : D1 X.K H v d) (r : RelV v u)
    (hs : d.showable = true) (hz : d.shown.length ≤ sizeLine) :
    ∃ bs, ReadAtMost s.heap d.depth bs ∧ ReprK X.prog X.w bs s.heap d.depth u d.shown := by
  obtain ⟨as, q, hm⟩ := h.rd I r
  exact ReprK.of_reads q hs hm hz
theorem D1s.each (I : Inv X pins σ H s) {n : Nat} : ∀ {vs : List V} {ds : List PyData} {us : List Value}, D1s X.K H vs ds → Vals vs us →
    PyData.showableAll ds = true → (∀ t ∈ PyData.shownAll ds, t.length ≤ sizeLine) → PyData.depthAll ds ≤ n →
    ∃ bs, ReadAtMost s.heap n bs ∧ ReprAllK X.prog X.w bs s.heap n us (PyData.shownAll ds)
  | _, _, _, .nil, .nil, _, _, _ => ⟨[], (fun _ z => nomatch z), by simp only [PyData.shownAll]; exact .nil⟩
  | _, _, _, .cons (d := d) (ds := ds) h1 h2, .cons r1 r2, hs, hz, hn => by
    have hs' : d.showable = true ∧ PyData.showableAll ds = true := by simpa [PyData.showableAll] using hs
    simp only [PyData.depthAll] at hn
    simp only [PyData.shownAll] at hz ⊢
    obtain ⟨b1, m1, k1⟩ := h1.one I r1 hs'.1 (hz _ List.mem_cons_self)
    obtain ⟨b2, m2, k2⟩ := D1s.each I h2 r2 hs'.2 (fun t ht => hz t (List.mem_cons_of_mem _ ht)) (by omega : PyData.depthAll ds ≤ n)
    refine ⟨b1 ++ b2, (m1.mono (by omega)).append m2, .cons ((k1.more fun b hb => List.mem_append_left _ hb).level_le (by omega)) (k2.more_le (fun b hb => List.mem_append_right _ hb) (Nat.le_refl _))⟩
end

/-- repr of such data where no repr is under way -/
def rRepr (K : PySem.W.Frag) : List V → Hp → VK → Prop := fun xs H Q => ∃ v d, xs = [v] ∧ D2 K H v d ∧ d.showable = true ∧
  d.shown.length ≤ sizeLine ∧ d.depth ≤ 60 ∧ Q (.str d.shown) H
section
variable {X : Cx}
theorem call_repr (hG : X.A.guards = some []) (hu : X.A.units + 64 < cLine) : CallR X (.builtin "repr") (rRepr X.K) := by
  intro pins s σ H xs us Q I rel h
  obtain ⟨v, d, rfl, hd, hs, hz, hdep, q⟩ := h
  obtain ⟨u, rfl, r⟩ := vals1 rel
  cases hd with
  | d1 h1 =>
    cases h1 with
    | dp hp =>
      cases hp with
      | non =>
        cases (show u = Value.none from r)
        simp only [PyData.shown] at q
        exact PySem.P.repr_of_none ⟨.str _, H, I.tok _, ⟨_, rfl⟩, q⟩
      | bl b =>
        cases (show u = Value.bool b from r)
        simp only [PyData.shown] at q
        exact PySem.P.repr_of_bool ⟨.str _, H, I.tok _, ⟨_, rfl⟩, q⟩
      | int i =>
        obtain ⟨t, rfl⟩ := (show ∃ t, u = Value.int i t from r)
        simp only [PyData.shown] at q
        exact PySem.P.repr_of_int (by simpa [PyData.showable] using hs) ⟨.str _, H, I.tok _, ⟨_, rfl⟩, q⟩
      | str x =>
        obtain ⟨t, rfl⟩ := (show ∃ t, u = Value.str x t from r)
        simp only [PyData.shown] at q hz
        exact PySem.P.repr_of_str ⟨.str _, H, I.tok _, ⟨_, rfl⟩, q⟩ hz
      | @lst a ys ds hl ha =>
        cases (show u = Value.ref a from r)
        obtain ⟨as, rd, hm⟩ := (D1.dp (.lst hl ha) : D1 X.K H (.ref a) (.list ds)).rd I rfl
        exact repr_of_reads' rd hs hm hG (by omega) (fun _ _ z => z) (fun h' u tk hk => ⟨.str _, H, I.kept hk, ⟨_, rfl⟩, q⟩) hz
      | @tup a ys ds hl ha =>
        cases (show u = Value.ref a from r)
        obtain ⟨as, rd, hm⟩ := (D1.dp (.tup hl ha) : D1 X.K H (.ref a) (.tuple ds)).rd I rfl
        exact repr_of_reads' rd hs hm hG (by omega) (fun _ _ z => z) (fun h' u tk hk => ⟨.str _, H, I.kept hk, ⟨_, rfl⟩, q⟩) hz
    | @emp a ha =>
      cases (show u = Value.ref a from r)
      obtain ⟨as, rd, hm⟩ := (D1.emp ha : D1 X.K H (.ref a) (.dict [])).rd I rfl
      exact repr_of_reads' rd hs hm hG (by omega) (fun _ _ z => z) (fun h' u tk hk => ⟨.str _, H, I.kept hk, ⟨_, rfl⟩, q⟩) hz
  | @lst a ys ds hl ha =>
    cases (show u = Value.ref a from r)
    obtain ⟨its, rv, ⟨o, n, ho, hc, _, ho2⟩, _⟩ := I.list hl
    obtain ⟨as, rda⟩ := ha.rd I rv
    have hz' : (listText (PyData.shownAll ds)).length ≤ sizeLine := by simpa only [PyData.shown] using hz
    simp only [PyData.depth] at hdep
    obtain ⟨bs, hb, hk⟩ := ha.each I rv (by simpa [PyData.showable] using hs) (fun t ht => Nat.le_trans (listText_mem_le ht) hz') (Nat.le_refl _)
    have hna : a ∉ bs := not_mem_of_deeper (.list ho hc ho2 rda) (by simp only [PyData.depth]; omega) hb
    simp only [PyData.shown] at q
    have ty : s.TypeIs (.ref a) "list" := ⟨o, ho, hc⟩
    have fin : ∀ h' u tk, (∀ b o, s.heap.get? b = some o → h'.get? b = some o) →
        EP X pins σ Q (.str (listText (PyData.shownAll ds)) u) { s with heap := h', toks := tk } :=
      fun h' u tk hk => ⟨.str _, H, I.kept hk, ⟨_, rfl⟩, q⟩
    refine call_repr_slot (by omega) ty PySem.F.slot_list_repr.toG ?_
    cases its with
    | nil =>
      cases rda
      simp only [PyData.shownAll, listText_nil] at fin
      exact call_list_repr_empty ty ho ho2 ⟨_, _, rfl, fin s.heap _ _ fun _ _ e => e⟩
    | cons x l =>
      exact call_list_reprK ho hc ho2 hna (by simpa using hk.length_eq) (fun i y e => hk.item i y (by simpa using e)) hG
        (fun b _ => Clear.nil b) (by show X.A.units + 1 + (_ + 1) < cLine; omega) (fun _ _ z => z) (fun h' u tk hk => ⟨_, _, rfl, fin h' u tk hk⟩) hz'
  | @tup a ys ds hl ha =>
    cases (show u = Value.ref a from r)
    obtain ⟨its, rv, ⟨o, ho, hc, n, ho2⟩, _⟩ := I.tuple hl
    obtain ⟨as, rda⟩ := ha.rd I rv
    have hz' : (tupleText (PyData.shownAll ds)).length ≤ sizeLine := by simpa only [PyData.shown] using hz
    simp only [PyData.depth] at hdep
    obtain ⟨bs, hb, hk⟩ := ha.each I rv (by simpa [PyData.showable] using hs) (fun t ht => Nat.le_trans (tupleText_mem_le ht) hz') (Nat.le_refl _)
    have hna : a ∉ bs := not_mem_of_deeper (.tuple ho hc ho2 rda) (by simp only [PyData.depth]; omega) hb
    simp only [PyData.shown] at q
    have ty : s.TypeIs (.ref a) "tuple" := ⟨o, ho, hc⟩
    refine call_repr_slot (by omega) ty PySem.F.slot_tuple_repr ?_
    exact call_tuple_reprK ho hc ho2 hna (by simpa using hk) hG (fun b _ => Clear.nil b) (by show X.A.units + 1 + (_ + 1) < cLine; omega) (fun _ _ z => z)
      (fun h' u tk hk => ⟨_, _, rfl, ⟨.str _, H, I.kept hk, ⟨_, rfl⟩, q⟩⟩) hz'
end
end Gd
namespace Gd
open PySem PySem.Spec PyProof.Rows L2
/-- a def of the top, with its name -/
structure DefAt (K : PySem.W.Frag) (mg : Str → Option Value) (x : Str) (st : Stmt) (ps : List Str) : Prop where
  ex : ∃ (f : Addr) (fd : FuncData), Fun K x x st f fd ∧ mg x = some (.ref f) ∧ Binds K fd ps []
/-- a def by its name, its promise kept where no repr is under way -/
structure CalG (P : Program) (w : World) (K : PySem.W.Frag) (mg : Str → Option Value) (base : Heap) (k : Nat) (x : Str) (sp : Sp) : Prop where
  ex : ∃ (f : Addr) (fd : FuncData) (ps : List Str), FnG P w K mg base CX0 k f fd ps sp ∧ mg x = some (.ref f) ∧
    PySem.W.keepIn K (.ref f) = true ∧ Binds K fd ps []
section
variable {P : Program} {w : World} {K : PySem.W.Frag} {mg : Str → Option Value} {base : Heap}
theorem DefAt.cal {x : Str} {st : Stmt} {N ps : List Str} {k : Nat} {sp : Sp} (D : DefAt K mg x st ps) (S : FnScope N ps (defScope st))
    (ar : ∀ vs H Q E, sp vs H Q E → vs.length = ps.length)
    (bd : ∀ (f : Addr) (cdv : Value) (A : Around) (outer : List Env) (s : Shared) (H : Hp) (vs : List V) (Q : VK) (E : XK),
      A.guards = some [] → Room k (A.deeper (envOfC x (defScope st) s.heap.objs.size f cdv)) → sp vs H Q E →
      ∃ t, PSs (cxOf CX0 P w K mg base N x (defScope st) f cdv A outer s H E).nox (defBody st) t ∧
        t { nx := fun _ H' => Q .non H', rt := Q } (start N vs) H) : CalG P w K mg base (k + 1) x sp := by
  obtain ⟨f, fd, F, m, b⟩ := D.ex
  exact ⟨f, fd, ps, okG F S ar (bd f), m, F.kp, b⟩
theorem DefAt.mk' {X : K.In base} {x : Str} {st : Stmt} {ps : List Str} {f : Addr} {oc : Value} {od an : Option Addr} {osl : Array (Option Value)} {kV doc pm cdv ct : Value}
    (m : mg x = some (.ref f))
    (l : K.lookup f = some ⟨oc, od, .func (PySem.W.fnOf x x (defArgs st) (defBody st) (defScope st) .none kV doc pm an cdv ct), osl⟩)
    (c : PySem.W.codeIn K cdv x = true) (k : PySem.W.keepIn K (.ref f) = true)
    (b : ∀ (kV doc pm : Value) (an : Option Addr) (cdv ct : Value) (us : List Value), us.length = ps.length →
      bindArgs (PySem.W.fnOf x x (defArgs st) (defBody st) (defScope st) .none kV doc pm an cdv ct) ⟨us, []⟩ = pure (ps.zip us)) :
    DefAt K mg x st ps := by
  have F := fun_mk (st := st) l c k
  exact ⟨f, _, F, m, F.binds b⟩
end
section
variable {X : Cx} {k : Nat} {sp : Sp} {x : Str} {p pos : Pos} {e : Expr} {es : List Expr} {t : TA}
theorem pe_g (c : CalG X.prog X.w X.K X.mg X.base k x sp) (hG : X.A.guards = some []) (hr : Room k X.A) (hg : Gl X x)
    (ha : PA X (e :: es) t) (hdb : (x == ("__debug__" : Str)) = false := by decide)
    (he : starEach (e :: es) X.env = (false, eval e X.env) :: starEach es X.env := by rfl)
    (hpl : (backTo pos (starEach es X.env)).any (·.1) = false := by rfl) :
    PE X (.Call (.Name x p) (e :: es) [] pos) (tCall sp [] E0 t) := by
  obtain ⟨f, fd, ps, F, m, kp, b⟩ := c.ex
  exact pe_callG F hG hr hg m kp b .nil pass0 ha hdb he hpl
/-- a module's constant, a whole number -/
def GInt (mg : Str → Option Value) (x : Str) (n : Int) : Prop := ∃ t, mg x = some (.int n t)
theorem pe_gi {n : Int} (hg : Gl X x) (h : GInt X.mg x n) (hd : (x == ("__debug__" : Str)) = false := by decide) : PE X (.Name x pos) (tC (.int n)) := by
  obtain ⟨t, h⟩ := h
  exact pe_glob hg h ⟨t, rfl⟩ hd
/-- a module's constant, a text -/
def GStr (mg : Str → Option Value) (x : Str) (z : Str) : Prop := ∃ t, mg x = some (.str z t)
theorem pe_gs {z : Str} (hg : Gl X x) (h : GStr X.mg x z) (hd : (x == ("__debug__" : Str)) = false := by decide) : PE X (.Name x pos) (tC (.str z)) := by
  obtain ⟨t, h⟩ := h
  exact pe_glob hg h ⟨t, rfl⟩ hd
theorem hu64 {A : Around} (hr : Room k A) : A.units + 64 < cLine := by
  have := hr.un
  omega
/-- x is True, x is False, for any x -/
def isB (x : V) (b : Bool) : Bool := match x with
  | .bl a => a == b
  | _ => false
theorem op_isB : OpR X (compareOp .Is) (fun x y H Q => ∃ b, y = .bl b ∧ Q (.bl (isB x b)) H) := by
  intro pins s σ H x y v u Q I rx ry h
  obtain ⟨b, rfl, q⟩ := h
  cases (show u = Value.bool b from ry)
  cases x with
  | non =>
    cases (show v = Value.none from rx)
    exact wpAny_is_other rfl (fun z => nomatch z) ⟨.bl false, H, I, rfl, q⟩
  | bl a =>
    cases (show v = Value.bool a from rx)
    by_cases e : a = b
    · subst e
      refine wpAny_is_self rfl ⟨.bl true, H, I, rfl, ?_⟩
      simpa [isB] using q
    · refine wpAny_is_other rfl (fun z => e (Value.bool.inj z)) ⟨.bl false, H, I, rfl, ?_⟩
      have e2 : isB (.bl a) b = false := beq_eq_false_iff_ne.mpr e
      rw [e2] at q
      exact q
  | int i =>
    obtain ⟨t, rfl⟩ := (show ∃ t, v = Value.int i t from rx)
    exact wpAny_is_other rfl (fun z => nomatch z) ⟨.bl false, H, I, rfl, q⟩
  | str i =>
    obtain ⟨t, rfl⟩ := (show ∃ t, v = Value.str i t from rx)
    exact wpAny_is_other rfl (fun z => nomatch z) ⟨.bl false, H, I, rfl, q⟩
  | byt i =>
    obtain ⟨t, rfl⟩ := (show ∃ t, v = Value.bytes i t from rx)
    exact wpAny_is_other rfl (fun z => nomatch z) ⟨.bl false, H, I, rfl, q⟩
  | flt i =>
    obtain ⟨t, rfl⟩ := (show ∃ t, v = Value.float i t from rx)
    exact wpAny_is_other rfl (fun z => nomatch z) ⟨.bl false, H, I, rfl, q⟩
  | ref i =>
    cases (show v = Value.ref i from rx)
    exact wpAny_is_other rfl (fun z => nomatch z) ⟨.bl false, H, I, rfl, q⟩
  | ty i =>
    cases (show v = Value.type i from rx)
    exact wpAny_is_other rfl (fun z => nomatch z) ⟨.bl false, H, I, rfl, q⟩
theorem op_isntB : OpR X (compareOp .IsNot) (fun x y H Q => ∃ b, y = .bl b ∧ Q (.bl (!isB x b)) H) := by
  intro pins s σ H x y v u Q I rx ry h
  obtain ⟨b, rfl, q⟩ := h
  cases (show u = Value.bool b from ry)
  cases x with
  | non =>
    cases (show v = Value.none from rx)
    exact wpAny_isNot_other rfl (fun z => nomatch z) ⟨.bl true, H, I, rfl, q⟩
  | bl a =>
    cases (show v = Value.bool a from rx)
    by_cases e : a = b
    · subst e
      refine wpAny_isNot_self rfl ⟨.bl false, H, I, rfl, ?_⟩
      simpa [isB] using q
    · refine wpAny_isNot_other rfl (fun z => e (Value.bool.inj z)) ⟨.bl true, H, I, rfl, ?_⟩
      have e2 : isB (.bl a) b = false := beq_eq_false_iff_ne.mpr e
      rw [e2] at q
      exact q
  | int i =>
    obtain ⟨t, rfl⟩ := (show ∃ t, v = Value.int i t from rx)
    exact wpAny_isNot_other rfl (fun z => nomatch z) ⟨.bl true, H, I, rfl, q⟩
  | str i =>
    obtain ⟨t, rfl⟩ := (show ∃ t, v = Value.str i t from rx)
    exact wpAny_isNot_other rfl (fun z => nomatch z) ⟨.bl true, H, I, rfl, q⟩
  | byt i =>
    obtain ⟨t, rfl⟩ := (show ∃ t, v = Value.bytes i t from rx)
    exact wpAny_isNot_other rfl (fun z => nomatch z) ⟨.bl true, H, I, rfl, q⟩
  | flt i =>
    obtain ⟨t, rfl⟩ := (show ∃ t, v = Value.float i t from rx)
    exact wpAny_isNot_other rfl (fun z => nomatch z) ⟨.bl true, H, I, rfl, q⟩
  | ref i =>
    cases (show v = Value.ref i from rx)
    exact wpAny_isNot_other rfl (fun z => nomatch z) ⟨.bl true, H, I, rfl, q⟩
  | ty i =>
    cases (show v = Value.type i from rx)
    exact wpAny_isNot_other rfl (fun z => nomatch z) ⟨.bl true, H, I, rfl, q⟩
end
/-! names of the built-ins -/
theorem boot_len_ : bootBuiltins "len" = some (.builtin "len") := by decide +kernel
theorem boot_max_ : bootBuiltins "max" = some (.builtin "max") := by decide +kernel
theorem boot_min_ : bootBuiltins "min" = some (.builtin "min") := by decide +kernel
theorem boot_abs_ : bootBuiltins "abs" = some (.builtin "abs") := by decide +kernel
theorem boot_all_ : bootBuiltins "all" = some (.builtin "all") := by decide +kernel
theorem boot_repr_ : bootBuiltins "repr" = some (.builtin "repr") := by decide +kernel
theorem boot_isinstance_ : bootBuiltins "isinstance" = some (.builtin "isinstance") := by decide +kernel
theorem boot_int_ : bootBuiltins "int" = some (.type "int") := by decide +kernel
theorem boot_bool_ : bootBuiltins "bool" = some (.type "bool") := by decide +kernel
theorem boot_str_ : bootBuiltins "str" = some (.type "str") := by decide +kernel
theorem boot_list_ : bootBuiltins "list" = some (.type "list") := by decide +kernel
theorem boot_tuple_ : bootBuiltins "tuple" = some (.type "tuple") := by decide +kernel
theorem boot_dict_ : bootBuiltins "dict" = some (.type "dict") := by decide +kernel

/-! ### the box of a cell: what is drawn of it is any number below the bound -/
def BoxAt (H : Hp) (b : Addr) : Prop := ∃ x y z : Int, 0 ≤ x ∧ 0 ≤ y ∧ y < 2147483629 ∧ H b = some (.lst [.int x, .int y, .int z])
/-- all but the box is kept -/
def Kp (b : Addr) (H H' : Hp) : Prop := ∀ c o, c ≠ b → H c = some o → H' c = some o
theorem Kp.refl {b : Addr} {H : Hp} : Kp b H H := fun _ _ _ z => z
theorem Kp.trans {b : Addr} {H H1 H2 : Hp} (h : Kp b H H1) (k : Kp b H1 H2) : Kp b H H2 := fun c o n z => k c o n (h c o n z)
theorem Kp.upd {b p : Addr} {H H' : Hp} {o : HO} (h : Kp b H H') (n : H' p = none) : Kp b H (upd H' p o) := fun c u hc z => by
  have z2 := h c u hc z
  rw [upd_ne (ne_of_none z2 n)]
  exact z2
theorem BoxAt.upd {b p : Addr} {H : Hp} {o : HO} (h : BoxAt H b) (n : H p = none) : BoxAt (L2.upd H p o) b := by
  obtain ⟨x, y, z, h1, h2, h3, h4⟩ := h
  refine ⟨x, y, z, h1, h2, h3, ?_⟩
  rw [upd_ne (ne_of_none h4 n)]
  exact h4
theorem BoxAt.ne {b p : Addr} {H : Hp} (h : BoxAt H b) (n : H p = none) : p ≠ b := by
  obtain ⟨x, y, z, _, _, _, h4⟩ := h
  exact (ne_of_none h4 n).symm
def spTake : Sp := fun vs H Q _ => ∃ (b : Addr) (m : Int), vs = [.ref b, .int m] ∧ BoxAt H b ∧ 0 < m ∧ m ≤ 1000000000 ∧
  ∀ (d : Int) (H' : Hp), 0 ≤ d → d < m → BoxAt H' b → (∀ c, c ≠ b → H' c = H c) → Q (.int d) H'
def spCell (K : PySem.W.Frag) : Sp := fun vs H Q _ => ∃ (a : Addr) (ns : List Int) (k : Int), vs = [.ref a, .int k] ∧ SqL K H a (ns.map V.int) ∧
  ns.length ≤ 63 ∧ 0 ≤ k ∧ ∀ n : Int, Q (.int n) H
def spBox : Sp := fun vs H Q _ => ∃ n : Int, vs = [.int n] ∧ ∀ (b : Addr) (H' : Hp), H b = none → BoxAt H' b → (∀ c, c ≠ b → H' c = H c) → Q (.ref b) H'
theorem kp_of {b : Addr} {H H' : Hp} (h : ∀ c, c ≠ b → H' c = H c) : Kp b H H' := fun c o n z => by
  rw [h c n]
  exact z
theorem atI_ints {ns : List Int} {k : Int} (h0 : 0 ≤ k) (h1 : k < ns.length) : ∃ n, atI (ns.map V.int) k = some (.int n) := by
  obtain ⟨j, rfl⟩ : ∃ j : Nat, k = j := ⟨k.toNat, by omega⟩
  have hj : j < ns.length := by omega
  refine ⟨ns[j], atI_nat ?_⟩
  rw [List.getElem?_map, List.getElem?_eq_getElem hj]
  rfl
end Gd
namespace Gd
open PySem PySem.Spec PyProof.Rows L2
/-! ### data by its shape -/
/-- all but what N names is kept -/
def Kq (N : Addr → Prop) (H H' : Hp) : Prop := ∀ c o, ¬ N c → H c = some o → H' c = some o
mutual
/-- the value shows the data d, laid in objects that N does not name -/
inductive Da (H : Hp) (N : Addr → Prop) : V → PyData → Prop
  | non : Da H N .non .none
  | bl (b : Bool) : Da H N (.bl b) (.bool b)
  | int (i : Int) : Da H N (.int i) (.int i)
  | str (x : Str) : Da H N (.str x) (.str x)
  | lst {a : Addr} {xs : List V} {ds : List PyData} : ¬ N a → H a = some (.lst xs) → Das H N xs ds → Da H N (.ref a) (.list ds)
  | tup {a : Addr} {xs : List V} {ds : List PyData} : ¬ N a → H a = some (.tup xs) → Das H N xs ds → Da H N (.ref a) (.tuple ds)
inductive Das (H : Hp) (N : Addr → Prop) : List V → List PyData → Prop
  | nil : Das H N [] []
  | cons {v : V} {vs : List V} {d : PyData} {ds : List PyData} : Da H N v d → Das H N vs ds → Das H N (v :: vs) (d :: ds)
end
mutual
theorem Da.kq {H H' : Hp} {N : Addr → Prop} (k : Kq N H H') : ∀ {v : V} {d : PyData}, Da H N v d → Da H' N v d
  | _, _, .non => .non
  | _, _, .bl b => .bl b
  | _, _, .int i => .int i
  | _, _, .str x => .str x
  | _, _, .lst n h s => .lst n (k _ _ n h) (Das.kq k s)
  | _, _, .tup n h s => .tup n (k _ _ n h) (Das.kq k s)
theorem Das.kq {H H' : Hp} {N : Addr → Prop} (k : Kq N H H') : ∀ {vs : List V} {ds : List PyData}, Das H N vs ds → Das H' N vs ds
  | _, _, .nil => .nil
  | _, _, .cons h s => .cons (Da.kq k h) (Das.kq k s)
end
mutual
theorem Da.wk {H : Hp} {N M : Addr → Prop} (k : ∀ a, M a → N a) : ∀ {v : V} {d : PyData}, Da H N v d → Da H M v d
  | _, _, .non => .non
  | _, _, .bl b => .bl b
  | _, _, .int i => .int i
  | _, _, .str x => .str x
  | _, _, .lst n h s => .lst (fun z => n (k _ z)) h (Das.wk k s)
  | _, _, .tup n h s => .tup (fun z => n (k _ z)) h (Das.wk k s)
theorem Das.wk {H : Hp} {N M : Addr → Prop} (k : ∀ a, M a → N a) : ∀ {vs : List V} {ds : List PyData}, Das H N vs ds → Das H M vs ds
  | _, _, .nil => .nil
  | _, _, .cons h s => .cons (Da.wk k h) (Das.wk k s)
end
mutual
theorem Da.dp {K : PySem.W.Frag} {H : Hp} {N : Addr → Prop} : ∀ {v : V} {d : PyData}, Da H N v d → Dp K H v d
  | _, _, .non => .non
  | _, _, .bl b => .bl b
  | _, _, .int i => .int i
  | _, _, .str x => .str x
  | _, _, .lst _ h s => .lst (SqL.of h) (Das.dp s)
  | _, _, .tup _ h s => .tup (SqT.of h) (Das.dp s)
theorem Das.dp {K : PySem.W.Frag} {H : Hp} {N : Addr → Prop} : ∀ {vs : List V} {ds : List PyData}, Das H N vs ds → DpAll K H vs ds
  | _, _, .nil => .nil
  | _, _, .cons h s => .cons (Da.dp h) (Das.dp s)
end
theorem Das.len {H : Hp} {N : Addr → Prop} : ∀ {vs : List V} {ds : List PyData}, Das H N vs ds → vs.length = ds.length
  | _, _, .nil => rfl
  | _, _, .cons _ s => by rw [List.length_cons, List.length_cons, s.len]
theorem Das.get {H : Hp} {N : Addr → Prop} : ∀ {vs : List V} {ds : List PyData} {i : Nat} {v : V}, Das H N vs ds → vs[i]? = some v → ∃ d, ds[i]? = some d ∧ Da H N v d
  | _, _, 0, _, .cons h _, e => ⟨_, rfl, by
      have e2 := Option.some.inj e
      subst e2
      exact h⟩
  | _, _, i + 1, v, .cons _ s, e => s.get (i := i) (v := v) e
  | _, _, i, _, .nil, e => by simp at e
theorem Das.snoc {H : Hp} {N : Addr → Prop} {v : V} {d : PyData} : ∀ {vs : List V} {ds : List PyData}, Das H N vs ds → Da H N v d → Das H N (vs ++ [v]) (ds ++ [d])
  | _, _, .nil, h => .cons h .nil
  | _, _, .cons g s, h => .cons g (s.snoc h)
theorem Das.set {H : Hp} {N : Addr → Prop} {v : V} {d : PyData} : ∀ {vs : List V} {ds : List PyData} {i : Nat}, Das H N vs ds → Da H N v d → Das H N (vs.set i v) (ds.set i d)
  | _, _, _, .nil, _ => .nil
  | _, _, 0, .cons _ s, h => .cons h s
  | _, _, _ + 1, .cons g s, h => .cons g (s.set h)

theorem same_sqT {K : PySem.W.Frag} {H H' : Hp} {a : Addr} {xs : List V} (s : Same H H') (h : SqT K H a xs) : SqT K H' a xs := by
  rcases h with h | h
  · refine .inl ?_
    rcases h with h | ⟨o, h⟩
    · exact .inl (s _ _ h)
    · exact .inr ⟨o, s _ _ h⟩
  · exact .inr h
mutual
theorem dpSame {K : PySem.W.Frag} {H H' : Hp} (s : Same H H') : ∀ {v : V} {d : PyData}, Dp K H v d → Dp K H' v d
  | _, _, .non => .non
  | _, _, .bl b => .bl b
  | _, _, .int i => .int i
  | _, _, .str x => .str x
  | _, _, .lst h r => .lst (s.seq h) (dpSames s r)
  | _, _, .tup h r => .tup (same_sqT s h) (dpSames s r)
theorem dpSames {K : PySem.W.Frag} {H H' : Hp} (s : Same H H') : ∀ {vs : List V} {ds : List PyData}, DpAll K H vs ds → DpAll K H' vs ds
  | _, _, .nil => .nil
  | _, _, .cons h r => .cons (dpSame s h) (dpSames s r)
end
theorem dpLen {K : PySem.W.Frag} {H : Hp} : ∀ {vs : List V} {ds : List PyData}, DpAll K H vs ds → vs.length = ds.length
  | _, _, .nil => rfl
  | _, _, .cons _ s => by rw [List.length_cons, List.length_cons, dpLen s]
theorem dpGet {K : PySem.W.Frag} {H : Hp} : ∀ {vs : List V} {ds : List PyData} {i : Nat} {v : V}, DpAll K H vs ds → vs[i]? = some v → ∃ d, ds[i]? = some d ∧ Dp K H v d
  | _, _, 0, _, .cons h _, e => ⟨_, rfl, by
      have e2 := Option.some.inj e
      subst e2
      exact h⟩
  | _, _, i + 1, v, .cons _ s, e => dpGet (i := i) (v := v) s e
  | _, _, i, _, .nil, e => by simp at e
theorem d1Same {K : PySem.W.Frag} {H H' : Hp} (s : Same H H') {v : V} {d : PyData} (h : D1 K H v d) : D1 K H' v d := by
  cases h with
  | dp h => exact .dp (dpSame s h)
  | emp h => exact .emp (s _ _ h)
/-! ### the class of data -/
def tyN : PyData → String
  | .none => "NoneType"
  | .bool _ => "bool"
  | .int _ => "int"
  | .str _ => "str"
  | .list _ => "list"
  | .tuple _ => "tuple"
  | .dict _ => "dict"
def isIntD : PyData → Bool
  | .bool _ => true
  | .int _ => true
  | _ => false
def isBoolD : PyData → Bool
  | .bool _ => true
  | _ => false
def isStrD : PyData → Bool
  | .str _ => true
  | _ => false
def isTupD : PyData → Bool
  | .tuple _ => true
  | _ => false
def isSeqD : PyData → Bool
  | .list _ => true
  | .tuple _ => true
  | _ => false
theorem tyL {K : PySem.W.Frag} {H : Hp} {a : Addr} {xs : List V} (h : SqL K H a xs) : TyX K H (.ref a) (.type "list") := by
  rcases h with h | ⟨o, _, _, h, hc, _⟩
  · rcases h with h | ⟨o, h⟩
    · exact .base (.lst h)
    · exact .base (.frz h)
  · exact .kList h hc
theorem tyT {K : PySem.W.Frag} {H : Hp} {a : Addr} {xs : List V} (h : SqT K H a xs) : TyX K H (.ref a) (.type "tuple") := by
  rcases h with h | ⟨o, _, _, h, hc, _⟩
  · rcases h with h | ⟨o, h⟩
    · exact .base (.tup h)
    · exact .fTuple h
  · exact .kTuple h hc
theorem tyD {K : PySem.W.Frag} {H : Hp} {v : V} {d : PyData} (h : D1 K H v d) : TyX K H v (.type (tyN d)) := by
  cases h with
  | dp h =>
    cases h with
    | non => exact .base .non
    | bl b => exact .base (.bl b)
    | int i => exact .base (.int i)
    | str x => exact .base (.str x)
    | lst h _ => exact tyL h
    | tup h _ => exact tyT h
  | emp h => exact .base (.dK h)
theorem kInt {K : PySem.W.Frag} (d : PyData) : PySem.W.kitOne K (.type (tyN d)) (.type "int") = some (isIntD d) := by
  cases d
  all_goals exact kit_ty (by simp only [tyN, isIntD]; decide +kernel)
theorem kBool {K : PySem.W.Frag} (d : PyData) : PySem.W.kitOne K (.type (tyN d)) (.type "bool") = some (isBoolD d) := by
  cases d
  all_goals exact kit_ty (by simp only [tyN, isBoolD]; decide +kernel)
theorem kStr {K : PySem.W.Frag} (d : PyData) : PySem.W.kitOne K (.type (tyN d)) (.type "str") = some (isStrD d) := by
  cases d
  all_goals exact kit_ty (by simp only [tyN, isStrD]; decide +kernel)
theorem kTup {K : PySem.W.Frag} (d : PyData) : PySem.W.kitOne K (.type (tyN d)) (.type "tuple") = some (isTupD d) := by
  cases d
  all_goals exact kit_ty (by simp only [tyN, isTupD]; decide +kernel)
theorem kLst {K : PySem.W.Frag} (d : PyData) : PySem.W.kitOne K (.type (tyN d)) (.type "list") = some (isSeqD d && !isTupD d) := by
  cases d
  all_goals exact kit_ty (by simp only [tyN, isSeqD, isTupD]; decide +kernel)
theorem kSeq {K : PySem.W.Frag} (d : PyData) : PySem.W.kitAny K (.type (tyN d)) [.type "list", .type "tuple"] = some (isSeqD d) := by
  refine kitAny_cons (kLst d) (fun z => kitAny_cons (kTup d) (fun y => ?_) fun y => ?_) fun z => ?_
  · have e : isSeqD d = false := by
      cases d
      all_goals simp_all [isSeqD, isTupD]
    rw [e]
    exact kitAny_nil
  · cases d
    all_goals simp_all [isSeqD, isTupD]
  · cases d
    all_goals simp_all [isSeqD, isTupD]
theorem clsSeq : Paired ClsV [.ty "list", .ty "tuple"] [.type "list", .type "tuple"] := .cons (.ty _) (.cons (.ty _) .nil)
/-! ### how long it is when shown -/
def Big (n : Int) : Prop := -(10 ^ 40) ≤ n ∧ n ≤ 10 ^ 40
theorem big_log {n : Int} (h : Big n) : n.natAbs.log2 < 1920 := by
  have h0 : n.natAbs < 2 ^ 1920 := by
    have h1 : n.natAbs ≤ 10 ^ 40 := by
      obtain ⟨h1, h2⟩ := h
      omega
    exact Nat.lt_of_le_of_lt h1 (by decide +kernel)
  by_cases z : n.natAbs = 0
  · rw [z]
    decide +kernel
  · exact (Nat.log2_lt z).mpr h0
/-- it may be shown, in so many signs, so deep -/
structure Okd (d : PyData) (m e : Nat) : Prop where
  sh : d.showable = true
  ln : d.shown.length ≤ m
  dp : d.depth ≤ e
theorem Okd.up {d : PyData} {m e m' e' : Nat} (h : Okd d m e) (h1 : m ≤ m') (h2 : e ≤ e') : Okd d m' e' := ⟨h.sh, Nat.le_trans h.ln h1, Nat.le_trans h.dp h2⟩
theorem okNone : Okd .none 5 0 := ⟨by simp only [PyData.showable], by simp only [PyData.shown]; decide +kernel, by simp only [PyData.depth]; decide⟩
theorem okBool (b : Bool) : Okd (.bool b) 5 0 := by
  refine ⟨by simp only [PyData.showable], ?_, by simp only [PyData.depth]; decide⟩
  cases b
  · simp only [PyData.shown]
    decide +kernel
  · simp only [PyData.shown]
    decide +kernel
theorem okInt {n : Int} (h : Big n) : Okd (.int n) 50 0 := by
  refine ⟨?_, ?_, by simp only [PyData.depth]; decide⟩
  · simp only [PyData.showable, decide_eq_true_eq]
    exact big_log h
  · simp only [PyData.shown]
    rw [PySem.ofString_length]
    have h1 : n.natAbs < 10 ^ 41 := by
      have h1 : n.natAbs ≤ 10 ^ 40 := by
        obtain ⟨h1, h2⟩ := h
        omega
      exact Nat.lt_of_le_of_lt h1 (by decide +kernel)
    exact Nat.le_trans (int_text_length_le10 (k := 41) (by decide) h1) (by decide)
theorem okStr {x : Str} {m : Nat} (h : (reprText x).length ≤ m) : Okd (.str x) m 0 :=
  ⟨by simp only [PyData.showable], by simp only [PyData.shown]; exact h, by simp only [PyData.depth]; decide⟩
theorem okEmp : Okd (.dict []) 5 1 := by
  refine ⟨by simp only [PyData.showable, PyData.showableKv], ?_, by simp only [PyData.depth, PyData.depthKv]; decide⟩
  simp only [PyData.shown, PyData.shownKv]
  decide +kernel
theorem sum_le {m : Nat} : ∀ ts : List Str, (∀ t ∈ ts, t.length ≤ m) → (ts.map (·.length)).sum ≤ m * ts.length
  | [], _ => by simp
  | t :: r, h => by
    have h1 := h t List.mem_cons_self
    have h2 := sum_le r fun x hx => h x (List.mem_cons_of_mem _ hx)
    rw [List.map_cons, List.sum_cons, List.length_cons, Nat.mul_succ]
    show t.length + _ ≤ _
    omega
theorem oks {m e : Nat} : ∀ {ds : List PyData}, (∀ d ∈ ds, Okd d m e) → PyData.showableAll ds = true ∧ (∀ t ∈ PyData.shownAll ds, t.length ≤ m) ∧ PyData.depthAll ds ≤ e ∧ (PyData.shownAll ds).length = ds.length
  | [], _ => ⟨by simp only [PyData.showableAll], by simp [PyData.shownAll], by simp only [PyData.depthAll]; exact Nat.zero_le _, by simp only [PyData.shownAll]; rfl⟩
  | d :: r, h => by
    have a := h d List.mem_cons_self
    obtain ⟨b1, b2, b3, b4⟩ := oks fun x hx => h x (List.mem_cons_of_mem _ hx)
    refine ⟨by simp only [PyData.showableAll, a.sh, b1, Bool.and_self], ?_, ?_, by simp only [PyData.shownAll, List.length_cons, b4]⟩
    · intro t ht
      simp only [PyData.shownAll, List.mem_cons] at ht
      rcases ht with rfl | ht
      · exact a.ln
      · exact b2 t ht
    · have := a.dp
      simp only [PyData.depthAll]
      omega
theorem okList {ds : List PyData} {m e n : Nat} (h : ∀ d ∈ ds, Okd d m e) (l : ds.length ≤ n) : Okd (.list ds) (m * n + 2 * n + 3) (e + 1) := by
  obtain ⟨b1, b2, b3, b4⟩ := oks h
  refine ⟨by simp only [PyData.showable, b1], ?_, by simp only [PyData.depth]; omega⟩
  simp only [PyData.shown]
  have h1 := listText_len_le (PyData.shownAll ds)
  have h2 := sum_le _ b2
  rw [b4] at h1 h2
  have h3 : m * ds.length ≤ m * n := Nat.mul_le_mul_left m l
  omega
theorem okTuple {ds : List PyData} {m e n : Nat} (h : ∀ d ∈ ds, Okd d m e) (l : ds.length ≤ n) : Okd (.tuple ds) (m * n + 2 * n + 3) (e + 1) := by
  obtain ⟨b1, b2, b3, b4⟩ := oks h
  refine ⟨by simp only [PyData.showable, b1], ?_, by simp only [PyData.depth]; omega⟩
  simp only [PyData.shown]
  have h1 := tupleText_len_le (PyData.shownAll ds)
  have h2 := sum_le _ b2
  rw [b4] at h1 h2
  have h3 : m * ds.length ≤ m * n := Nat.mul_le_mul_left m l
  omega
theorem line_le {n : Nat} (h : n ≤ 1000000) : n ≤ sizeLine := Nat.le_trans h (by decide)
theorem bLn (B : Bool) : (PyData.bool B).shown.length ≤ sizeLine := Nat.le_trans (okBool B).ln (by decide)
theorem bDp (B : Bool) : (PyData.bool B).depth ≤ 60 := Nat.le_trans (okBool B).dp (by decide)
theorem ifSame {x : V} {A B : Prop} (h : B) : if (!decide (x = x)) = true then A else B := by
  rw [decide_eq_true rfl]
  exact h
/-! ### heaps and picks -/
theorem same_new {H : Hp} {p : Addr} {o : HO} (h : H p = none) : Same H (upd H p o) := fun b x e => by
  rw [upd_ne (ne_of_none e h)]
  exact e
theorem kep {H : Hp} {p q : Addr} {o u : HO} (h : H p = some o) (n : H q = none) : (upd H q u) p = some o := by
  rw [upd_ne (ne_of_none h n)]
  exact h
theorem upd_none {H : Hp} {p q : Addr} {o : HO} (h : upd H p o q = none) : H q = none := by
  unfold upd at h
  split at h
  · cases h
  · exact h
theorem pickL (xs : List V) {k : Int} (h0 : 0 ≤ k) (h1 : k < xs.length) : ∃ v, v ∈ xs ∧ atI xs k = some v := by
  obtain ⟨j, rfl⟩ : ∃ j : Nat, k = j := ⟨k.toNat, by omega⟩
  have hj : j < xs.length := by omega
  exact ⟨xs[j], List.getElem_mem hj, atI_nat (List.getElem?_eq_getElem hj)⟩
theorem pickK (xs : List V) {k : Int} (h0 : 0 ≤ k) (h1 : k < xs.length) : ∃ v, xs[k.toNat]? = some v ∧ atI xs k = some v := by
  obtain ⟨j, rfl⟩ : ∃ j : Nat, k = j := ⟨k.toNat, by omega⟩
  have hj : j < xs.length := by omega
  exact ⟨xs[j], List.getElem?_eq_getElem hj, atI_nat (List.getElem?_eq_getElem hj)⟩
theorem boxAway {H : Hp} {b D : Addr} {o : HO} (h : BoxAt H b) (n : D ≠ b) : BoxAt (upd H D o) b := by
  obtain ⟨x, y, z, h1, h2, h3, h4⟩ := h
  refine ⟨x, y, z, h1, h2, h3, ?_⟩
  rw [upd_ne n.symm]
  exact h4
theorem boxSame {b : Addr} {H H' : Hp} (h : BoxAt H b) (s : Same H H') : BoxAt H' b := by
  obtain ⟨x, y, z, h1, h2, h3, h4⟩ := h
  exact ⟨x, y, z, h1, h2, h3, s _ _ h4⟩
theorem same_kp {b : Addr} {H H' : Hp} (s : Same H H') : Kp b H H' := fun c o _ z => s c o z
theorem same_keep {H H' H'' : Hp} {b : Addr} (s : Same H H') (n : H' b = none) (k : ∀ c o, c ≠ b → H' c = some o → H'' c = some o) : Same H H'' := fun c o z =>
  k c o (ne_of_none (s c o z) n) (s c o z)
/-- new in H, where the box is b -/
def Nw (H : Hp) (b : Addr) : Addr → Prop := fun c => c = b ∨ ∃ o, H c = some o
theorem nw_of {H H' : Hp} {b p : Addr} (k : Kp b H H') (n : H' p = none) (hb : p ≠ b) : ¬ Nw H b p := by
  rintro (h | ⟨o, h⟩)
  · exact hb h
  · rw [k p o hb h] at n
    cases n
theorem Kp.kq {b : Addr} {H H' : Hp} {N : Addr → Prop} (k : Kp b H H') (n : N b) : Kq N H H' := fun c o hc z => k c o (fun e => hc (e ▸ n)) z
theorem defAt {K : PySem.W.Frag} {mg : Str → Option Value} {x : Str} {st : Stmt} {ps : List Str} {f : Addr} {oc : Value} {od an : Option Addr} {osl : Array (Option Value)} {kV doc pm cdv ct : Value}
    (m : mg x = some (.ref f))
    (l : K.lookup f = some ⟨oc, od, .func (PySem.W.fnOf x x (defArgs st) (defBody st) (defScope st) .none kV doc pm an cdv ct), osl⟩)
    (c : PySem.W.codeIn K cdv x = true) (k : PySem.W.keepIn K (.ref f) = true)
    (b : ∀ (kV doc pm : Value) (an : Option Addr) (cdv ct : Value) (us : List Value), us.length = ps.length →
      bindArgs (PySem.W.fnOf x x (defArgs st) (defBody st) (defScope st) .none kV doc pm an cdv ct) ⟨us, []⟩ = pure (ps.zip us)) :
    DefAt K mg x st ps := by
  have F := fun_mk (st := st) l c k
  exact ⟨f, _, F, m, F.binds b⟩
end Gd
/-! An own error whose __init__ says super().__init__(a text), then keeps the one thing it is made of. -/
namespace Ge
open PySem PySem.W PySem.Calls PyProof.Rows PySem.HandSPX
def iA (p1 p2 : Pos) : Arguments := { posonlyargs := [], args := [{ arg := "self", annotation := none, pos := p1 }, { arg := "found", annotation := none, pos := p2 }], vararg := none, kwonlyargs := [], kw_defaults := [], kwarg := none, defaults := [] }
def iB (msg : Str) (kk : Nat) (p1 p2 p3 p4 p5 p6 q1 q2 q3 q4 : Pos) : List Stmt :=
  [.Expr (.Call (.Attribute (.Call (.Name "super" p1) [] [] p2) "__init__" p3) [.Constant (.str msg) kk p4] [] p5) p6,
   .Assign [.Attribute (.Name "self" q1) "found" q2] (.Name "found" q3) q4]
def iS : Scope := { kind := .function, names := [(PySem.Str.ofString "self", .local), (PySem.Str.ofString "found", .local), (PySem.Str.ofString "__class__", .free), (PySem.Str.ofString "super", .globalImplicit)], isGenerator := false, isCoroutine := false, more := [] }
/-- what the written part says of the class at C and of its __init__ at fI -/
structure ErrTxt (P : Program) (K : Frag) (C fI : Addr) (qn msg : Str) : Prop where
  cls : ∃ nm q N bs bm sn sub ab col dd k0 k1 k2 k3 k5, K.lookup C = some (excClassObj nm q C N bs bm true sn sub ab col dd k0 k1 k2 k3 k5 "ValueError.__new__") ∧ refsVE bm = true
  sa : findIn K (.ref C) "__setattr__" = some (some (.builtin "object.__setattr__"))
  ga : findIn K (.ref C) "__getattribute__" = some (some (.builtin "BaseException.__getattribute__"))
  gg : findIn K (.ref C) "__getattr__" = some none
  noN : findIn K (.ref C) "found" = some none
  iC : findIn K (.ref C) "__init__" = some (some (.ref fI))
  tC : typeIn K (.ref fI) = some (.type "function")
  kC : keepIn K (.ref C) = true
  exC : subIn K (.ref C) (.type "BaseException") = some true
  veC : subIn K (.ref C) (.type "ValueError") = some true
  tyC : typeIn K (.ref C) = some (.type "type")
  hdC : hasDictIn K C = true
  sub : mroIn K C (.ref C) = some true
  sup : ks_superIn K C C "__init__" = some (some (.builtin "ValueError.__init__"))
  op : nsIn K cStatics "thirdparty.any" = some none
  zs : nsIn K mainGlobals "super" = some none
  htop : (P.main.scope.names.lookup ("super" : Str)).isSome = false
  fn : ∃ (oc : Value) (od : Option Addr) (doc pm : Value) (an : Option Addr) (cda cc : Addr) (ct : Value) (osl : Array (Option Value)) (kk : Nat) (p1 p2 p3 p4 p5 p6 q1 q2 q3 q4 r1 r2 : Pos) (ccl cl : Value) (cdd cld : Option Addr) (vs : Array Value) (ccs csl : Array (Option Value)) (file : Str) (tf : Tok),
    K.lookup fI = some ⟨oc, od, .func (ksFn "__init__" qn (iA r1 r2) (iB msg kk p1 p2 p3 p4 p5 p6 q1 q2 q3 q4) iS .none .none doc pm an (.ref cda) ct cc), osl⟩ ∧ codeIn K (.ref cda) qn = true ∧
    K.lookup cda = some ⟨ccl, cdd, .fields vs, ccs⟩ ∧ vs[2]? = some (.str file tf) ∧ ((P.main.file : Str) == file) = true ∧
    K.lookup cc = some ⟨cl, cld, .cell (some (.ref C)), csl⟩ ∧ (p3.endLine == p5.line) = true
/-- what __init__ leaves of a fresh exception at x -/
structure InitEnd (h h' : Heap) (x C dx t1 : Addr) (v : Value) : Prop where
  keep : ∀ b o, b ≠ x → h.get? b = some o → h'.get? b = some o
  obj : h'.get? x = some { cls := .ref C, dict := some dx, data := .fields #[.ref t1, .none, .none, .none, .bool false, .none] }
  dbig : h.objs.size ≤ dx
  dne : dx ≠ x
  ns : h'.Ns1 dx (fun y => if y = "found" then some v else none)
theorem iS_nocell : ∀ y ∈ iS.names, y.2 ≠ .cell := by decide +kernel
theorem iS_loc (x v : Value) : ∀ y ∈ ([(PySem.Str.ofString "self", x), (PySem.Str.ofString "found", v)] : List (Str × Value)), iS.names.lookup y.1 = some .local := by
  intro y hy
  simp only [List.mem_cons, List.not_mem_nil, or_false] at hy
  rcases hy with rfl | rfl
  · exact (by decide +kernel : iS.names.lookup (PySem.Str.ofString "self") = some .local)
  · exact (by decide +kernel : iS.names.lookup (PySem.Str.ofString "found") = some .local)
/-- o.name(..) in a body that is known to run, the call's line told -/
theorem at_method {M : Model} {A : Around} {c : Code} {E : Value → Shared → Prop} {s : Shared} {env : Env} {o : Expr} {name : Str} {apos pos : Pos} {args : List Expr} {Q : Value → Shared → Prop}
    (hl : (apos.endLine == pos.line) = true) (hf : methodCallForm (args.length + ([] : List Keyword).length) (backTo pos (starEach args env)) (backToKw pos (keywordEach [] env)) = true)
    (h : _root_.PySem.wpAt M A c (attributeBase o name env (eval o env)) (fun ov s₁ => wpAny M A (getMethod ov name (do return (← importBound o env).getD true))
      (fun fx s₂ => wpAny M A (callWith pos fx.1 fx.2 (backTo pos (starEach args env)) (backToKw pos (keywordEach [] env))) Q E s₂) E s₁) E s) :
    _root_.PySem.wpAt M A c (eval (.Call (.Attribute o name apos) args [] pos) env) Q E s := by
  rw [arm_eval_Call]
  apply _root_.PySem.wpAt_bind
  apply _root_.PySem.wpAt_mono h
  · intro ov s₁ h₁
    apply _root_.PySem.wpAt_of_wpAny
    apply wpAny_bind
    apply wpAny_standAt
    have hp : methodCallPos true o env apos pos = pure pos := by
      unfold methodCallPos
      simp [hl]
    unfold methodCall
    rw [hf]
    apply wpAny_bind
    apply wpAny_holding
    apply wpAny_mono h₁
    · intro fx s₂ h₂
      exact wpAny_bind (wpAny_of_eq hp h₂)
    · intro _ _ z
      exact z
  · intro _ _ z
    exact z
section
variable {prog : Program} {w : World} {A : Around} {E : Value → Shared → Prop} {R : Result → Shared → Prop} {s : Shared} {K : Frag} {mg mb : Str → Option Value} {C fI : Addr} {qn msg : Str}
theorem sup_call {h : Heap} {g : Array GenState} {d : Drawn} {t : Nat} {os : OsState} {u e t0 : Addr} {one : Value} {Q : Value → Shared → Prop}
    {nm q : Str} {N : Addr} {bs bm sub : List Value} {sn : List Str} {ab : Bool} {col : Option Bool} {dd : Option Addr} {k0 k1 k2 k3 k5 : Option Value}
    (hC : h.get? C = some (excClassObj nm q C N bs bm true sn sub ab col dd k0 k1 k2 k3 k5 "ValueError.__new__")) (he : h.get? e = some (excO C t0)) (hu : h.get? u = some (kxs_mw "ValueError.__init__" e))
    (hq : ∀ h' t1, (∀ b o, b ≠ e → h.get? b = some o → h'.get? b = some o) → h'.get? e = some (excO C t1) → Q .none ⟨h', g, d, t, os⟩) :
    wpAny (model prog w) A (call (.ref u) [one]) Q E ⟨h, g, d, t, os⟩ := by
  refine wpAny_call (codeAny_of_tree (show wpAny _ (Around.in1 _) (callAny (.ref u) ⟨[one], []⟩) _ _ _ from ?_))
  have e1 : (Value.type "method-wrapper" == Value.type "method" || Value.type "method-wrapper" == Value.type "builtin_function_or_method" || Value.type "method-wrapper" == Value.type "method-wrapper") = true := by decide
  simp only [callAny]
  refine wpAny_bind (m := load u) (wpAny_load hu ?_)
  simp only [kxs_mw, e1, if_true]
  refine (KFB.if_so (by decide) (wpAny_bind (check_bound_init F.excBase_ValueError.toExcCallFacts hC he rfl ?_)))
  refine (wpAny_bind (wpAny_pure (wpAny_pure (And.intro (plainId_quiet F.excBase_ValueError.init.plain _) (codeAny_builtin F.excBase_ValueError.initEntry ?_)))))
  have lz : [one].length ≤ sizeLine := by
    rw [sizeLine_eq]
    exact (by decide : 1 ≤ 16777216)
  exact exc_init_tree (cls := .ref C) (t0 := t0) (dv := none) (c2 := .none) (c3 := .none) (b4 := .bool false) he lz (fun h₄ k₄ hx₄ _ => hq h₄ _ k₄ hx₄)
theorem err_init (T : ErrTxt prog K C fI qn msg) {x t0 : Addr} {v : Value} (X : K.In s.heap) (lim : s.heap.NoLimit) (gl : s.heap.Ns mainGlobals mg) (bl : s.heap.Ns builtinsNs mb)
    (bb : ∀ x : Str, x ≠ "__name__" → mb x = bootBuiltins x) (hx : s.heap.get? x = some (excO C t0)) (hnx : K.lookup x = none) (room : A.depth < recursionLimit)
    (hq : ∀ h' tk dx t1, InitEnd s.heap h' x C dx t1 v → R (.ok (.ret .none)) { s with heap := h', toks := tk }) :
    codeAny (model prog w) A (.call (.ref fI) ⟨[.ref x, v], []⟩) R s := by
  obtain ⟨oc, od, doc, pm, an, cda, cc, ct, osl, kk, p1, p2, p3, p4, p5, p6, q1, q2, q3, q4, r1, r2, ccl, cl, cdd, cld, vs, ccs, csl, file, tf, ho, hcd, hcode, hvs, hfile, hcell, hline⟩ := T.fn
  obtain ⟨nm, q, N, bs, bm, sn, sub, ab, col, dd, k0, k1, k2, k3, k5, hC, hbm⟩ := T.cls
  have hzs := mg_none_of X gl T.zs
  obtain ⟨hp, g, dr, tk, os⟩ := s
  refine ks_codeAny_call_defAt (binds := [("self", .ref x), ("found", v)]) room (X _ _ ho) rfl lim (codeRec_of X hcd) rfl (BindsTo.of_eq (by first | rfl | with_unfolding_all rfl)) iS_nocell (iS_loc _ _) (fun h₁ hns k₁ => ?_) rfl rfl rfl
  have X₁ : K.In h₁ := X.keeps k₁
  have hx₁ := k₁ _ _ hx
  refine ks_wpAt_execs_cons (ks_wpAt_Expr_any (at_method hline (by first | rfl | with_unfolding_all rfl) ?_))
  refine ks_wpAt_super_base rfl rfl (by decide) rfl (X₁ _ _ ho) rfl rfl rfl (X₁ _ _ hcode) rfl hvs hfile T.htop ?_
  refine ks_loadName_global rfl rfl (loadGlobal_builtin (gl.keeps k₁) hzs (bl.keeps k₁) ((bb _ (by decide +kernel)).trans (by decide +kernel : bootBuiltins "super" = some (.type "super"))) ⟨rfl, ?_⟩)
  refine wpAny_loadName_free rfl rfl rfl ⟨_, X₁ _ _ hcell, rfl⟩ ?_
  refine wpAny_loadName_local rfl rfl hns (v := .ref x) (by first | rfl | with_unfolding_all rfl) ?_
  refine ks_wpAny_isType_cls (X₁ _ _ hC) rfl ⟨rfl, ?_⟩
  refine ks_wpAny_call_super (X₁ _ _ hC) rfl hx₁ rfl (fun c e => nomatch e) (looks_mroIn X₁ T.sub) (fun h₂ e₂ k₂ => ?_)
  have X₂ : K.In h₂ := X₁.keeps k₂
  have hx₂ := k₂ _ _ hx₁
  have I₂ : InstAt h₂ x (excO C t0) C none := ⟨hx₂, rfl, rfl, trivial⟩
  have hcl : clsIn K C = some { name := nm, bases := bs, mro := .ref C :: bm, ns := N, qualname := q, hasDict := true, slotNames := sn, subclasses := sub, abstract := ab, collection := col, hasDel := false } := by
    unfold clsIn
    rw [hC]
    all_goals rfl
  have hm := T.sup
  unfold ks_superIn at hm
  rw [hcl] at hm
  have hI : Looks (model prog w) h₂ (isInstance (.ref x) (.type "ValueError")) true := I₂.type.andThen (looks_subIn X₂ T.veC)
  have hxC : x ≠ C := fun z => by
    rw [z, hC] at hnx
    cases hnx
  refine kxs_getMethod kxs_ValueError e₂ (looks_opaque X₂ T.op) (l₀ := .ref C :: bm) ?_ rfl X₂ hm hI hxC (by decide +kernel) ?_
  · exact fun A Q E s k q => wpAny_bind ((looks_clsIn X₂ hcl) A _ E s k (wpAny_pure q))
  have hu : (h₂.push (kxs_mw "ValueError.__init__" x)).get? h₂.objs.size = some (kxs_mw "ValueError.__init__" x) := Heap.get?_push_at rfl rfl
  have k₃ : ∀ b o, h₂.get? b = some o → (h₂.push (kxs_mw "ValueError.__init__" x)).get? b = some o := fun b o e => Heap.get?_push_of_some _ e
  have X₃ : K.In (h₂.push (kxs_mw "ValueError.__init__" x)) := X₂.keeps k₃
  have hx₃ := k₃ _ _ hx₂
  refine kxs_callWith (i := "ValueError.__init__") (x := x) (by rfl) (evalArgs_plain ?_)
  refine Calls.spliced_cons (Calls.Constant_str (k := kk) (pos := p4) ?_)
  refine Calls.spliced_nil ⟨hu, ?_⟩
  refine sup_call (X₃ _ _ hC) hx₃ hu (fun h₄ t1 k₄ hx₄ => ?_)
  -- self.found = found
  have X₄ : K.In h₄ := fun a o e => k₄ a o (fun z => by rw [z, hnx] at e; cases e) (X₃ a o e)
  have hLx : hp.objs.size ≠ x := Nat.ne_of_gt (Heap.lt_size hx)
  have hn₄ := hns
  obtain ⟨oL, es, ep, eL, rL⟩ := hn₄
  have hn₄ : h₄.Ns hp.objs.size _ := ⟨oL, es, ep, k₄ _ _ hLx (k₃ _ _ (k₂ _ _ eL)), rL⟩
  have big : hp.objs.size < h₄.objs.size := hn₄.lt
  show _root_.PySem.wpAt _ _ _ (execs _ _) _ _ _
  refine _root_.PySem.wpAt_of_wpAny (wpAny_execs_cons (plainObj_wpAny_Assign_Attribute ?_))
  refine wpAny_Name (wpAny_loadName_local rfl rfl hn₄ (v := v) (by first | rfl | with_unfolding_all rfl) ?_) (by decide)
  refine wpAny_Name (wpAny_loadName_local rfl rfl hn₄ (v := .ref x) (by first | rfl | with_unfolding_all rfl) ?_) (by decide)
  refine set_plain X₄ (ox := excO C t1) (od := none) ⟨hx₄, rfl, rfl, trivial⟩ T.sa ?_
  refine HandSPX.exc_osa X₄ hx₄ hcl (show refsVE (.ref C :: bm) = true from hbm) rfl T.noN (fun h₅ tk₅ dx k₅ dn dne hx₅ hn₅ => ?_)
  show wpAny _ _ (execs _ _) _ _ _
  exact wpAny_execs_nil (hq h₅ tk₅ dx t1 ⟨fun b o hb e => k₅ b o hb (k₄ b o hb (k₃ b o (k₂ b o (k₁ b o e)))), hx₅, Nat.le_trans (Nat.le_of_lt big) dn, dne, hn₅⟩)
/-- an error that was made: its own dict d holds the thing -/
structure OwnMade (h h' : Heap) (e C d : Addr) (v : Value) : Prop where
  keep : ∀ b o, h.get? b = some o → h'.get? b = some o
  new : h.objs.size ≤ e
  obj : ∃ oe vs, h'.get? e = some oe ∧ oe.cls = .ref C ∧ oe.dict = some d ∧ oe.data = .fields vs ∧ vs[1]? = some .none
  dbig : h.objs.size ≤ d
  dne : d ≠ e
  ns : h'.Ns1 d (fun y => if y = "found" then some v else none)
theorem one_size (v : Value) : [v].length ≤ sizeLine := by
  rw [sizeLine_eq]
  exact (by decide : 1 ≤ 16777216)
theorem err_made (T : ErrTxt prog K C fI qn msg) {v : Value} (X : K.In s.heap) (lim : s.heap.NoLimit) (gl : s.heap.Ns mainGlobals mg) (bl : s.heap.Ns builtinsNs mb)
    (bb : ∀ x : Str, x ≠ "__name__" → mb x = bootBuiltins x) (room : A.depth + 1 < recursionLimit)
    (hq : ∀ h' tk e d, OwnMade s.heap h' e C d v → R (.ok (.ret (.ref e))) { s with heap := h', toks := tk }) :
    codeAny (model prog w) A (.call (.ref C) ⟨[v], []⟩) R s := by
  obtain ⟨nm, q, N, bs, bm, sn, sub, ab, col, dd, k0, k1, k2, k3, k5, hC, hbm⟩ := T.cls
  obtain ⟨hp, g, dr, tk, os⟩ := s
  have k : ∀ b o, hp.get? b = some o → ((hp.push (kdv_tup [v])).push (excO C hp.objs.size)).get? b = some o := fun b o e => Heap.get?_push_of_some _ (Heap.get?_push_of_some _ e)
  have hget : ((hp.push (kdv_tup [v])).push (excO C hp.objs.size)).get? (hp.objs.size + 1) = some (excO C hp.objs.size) := by heap_get
  have hnx : K.lookup (hp.objs.size + 1) = none := by
    cases e : K.lookup (hp.objs.size + 1) with
    | none => rfl
    | some o =>
      have z : hp.get? (hp.objs.size + 1) = some o := X _ _ e
      exact absurd (Nat.lt_of_succ_lt (Heap.lt_size z)) (Nat.lt_irrefl _)
  refine HandSPX.call_own F.excBase_ValueError (fun X => refsVE_contains X bm hbm) (X _ _ hC) (looks_findIn X T.iC) (fun self => bind_fn X self T.tC) (one_size v) ?_
  refine err_init (s := ⟨(hp.push (kdv_tup [v])).push (excO C hp.objs.size), g, dr, tk, os⟩) T (X.keeps k) (lim.keeps k) (gl.keeps k) (bl.keeps k) bb hget hnx ?_ fun h' tk' dx t1 ⟨k', hx, dn, dne, hns⟩ => ?_
  · show A.depth + 1 < recursionLimit
    exact room
  · have old : ∀ b o, hp.get? b = some o → h'.get? b = some o := fun b o e => k' b o (Nat.ne_of_lt (Nat.lt_succ_of_lt (Heap.lt_size e))) (k b o e)
    have z : hp.objs.size + 1 + 1 ≤ dx := by
      first
        | (simpa only [Heap.size_push] using dn)
        | exact dn
        | (have q := dn; rw [Heap.size_push, Heap.size_push] at q; exact q)
    exact ⟨rfl, hq h' tk' (hp.objs.size + 1) dx ⟨old, Nat.le_succ _, ⟨_, _, hx, rfl, rfl, rfl, rfl⟩, Nat.le_trans (Nat.le_trans (Nat.le_succ _) (Nat.le_succ _)) z, dne, hns⟩⟩
end
end Ge
namespace Ge
open PySem PySem.Spec PyProof.Rows L2
theorem relO_f {v : V} {v' : Value} (r : RelV v v') (f : Str) : RelO (List.lookup f [(("found" : Str), v)]) (if f = "found" then some v' else none) := by
  by_cases hw : f = "found"
  · subst hw
    rw [if_pos rfl]
    have q : List.lookup ("found" : Str) [(("found" : Str), v)] = some v := by simp [List.lookup]
    rw [q]
    exact r
  · rw [if_neg hw]
    have qw : (f == ("found" : Str)) = false := by simpa using hw
    have q2 : List.lookup f [(("found" : Str), v)] = none := by simp [List.lookup, qw]
    rw [q2]
    trivial
section
variable {X : Cx} {C fI : Addr} {qn msg cn : Str}
/-- E(e) -/
def tMkE (C : Addr) (ta : TA) : L2.St → Hp → XK → Prop := fun σ H Q => ta σ H fun vs H1 => ∃ v, vs = [v] ∧ ∀ d, H1 d = none → Q (.ref C) (some d) (upd H1 d (.xd [(("found" : Str), v)]))
theorem pmk_err {a : Expr} {ta : TA} {p pos : Pos} {k : Nat} (T : ErrTxt X.prog X.K C fI qn msg) (gC : X.mg cn = some (.ref C)) (hr : Room k X.A) (ha : PA X [a] ta) (hg : Gl X cn)
    (hdb : (cn == ("__debug__" : Str)) = false := by decide)
    (he : starEach (a :: []) X.env = (false, eval a X.env) :: starEach [] X.env := by rfl) (hpl : (backTo pos (starEach [] X.env)).any (·.1) = false := by rfl) :
    PMk X (.Call (.Name cn p) [a] [] pos) (tMkE C ta) := by
  intro pins s σ H Q I h
  apply wpAny_Call_Name_kw
  apply ld_glob I hg gC (hd := hdb)
  refine PySem.W.callWith_K (h₀ := X.base) I.ok.mod.kin T.kC (thn (ha.run pos pins s σ H _ I h) ?_) he hpl
  rintro us s1 ⟨vs, H1, I1, r1, v, ev, q1⟩
  subst ev
  refine ⟨I1.kIn, ?_⟩
  cases r1 with
  | cons rv rn =>
    rename_i v' us'
    cases rn
    show wpAny _ _ (call (.ref C) [v']) _ _ _
    have hlim := I1.nolimit
    have hgl := I1.mod.glob.keeps I1.bk
    obtain ⟨mb, hbl0, hbb⟩ := I1.mod.blt
    have hbl := hbl0.keeps I1.bk
    obtain ⟨hp, g, dr, tk, os⟩ := s1
    refine wpAny_call (err_made T I1.kIn hlim hgl hbl hbb (by have := hr.dp; omega) fun h' tk' e d M => ?_)
    show MkP X pins σ Q (.ref e) ⟨h', g, dr, tk', os⟩
    obtain ⟨oe, fv, hoe, hc, hd, hdat, h1⟩ := M.obj
    have hns := M.ns
    obtain ⟨G', g1, g2⟩ := restrict h' fun b => decide (b ≠ e)
    have gk : ∀ b, b ≠ e → G'.get? b = h'.get? b := fun b hb => g1 b (decide_eq_true hb)
    have ge : G'.get? e = none := g2 e (by simp)
    have old : ∀ b o, hp.get? b = some o → G'.get? b = some o := fun b o q => (gk b (Nat.ne_of_lt (Nat.lt_of_lt_of_le (Heap.lt_size q) M.new))).trans (M.keep b o q)
    have ob : ObjOk X.prog X.w (upd H1 d (.xd [(("found" : Str), v)])) G' d (.xd [(("found" : Str), v)]) :=
      ⟨_, hns.at (fun o q => (gk d M.dne).trans q), fun f => relO_f rv f⟩
    have J : Inv X pins σ (upd H1 d (.xd [(("found" : Str), v)])) ⟨G', g, dr, tk', os⟩ := I1.laid (t' := tk') old M.dbig ob
    refine ⟨e, oe, fv, ⟨G', g, dr, tk', os⟩, _, .ref C, some d, rfl, J, fun b o q => ?_, ge, hoe, ⟨hc, hd⟩, hdat, h1, ?_, rfl, I1.bare, raises_own T.exC T.tyC, q1 d (I1.hok.fresh M.dbig)⟩
    · by_cases hb : b = e
      · have q' : G'.get? b = some o := q
        rw [hb, ge] at q'
        cases q'
      · exact (gk b hb).symm.trans q
    · rw [upd_ne (Ne.symm M.dne)]
      exact I1.hok.fresh M.new
/-- raise E(e) -/
def tRaiseE (C : Addr) (W : WX) (ta : TA) : TS := fun _ σ H => tMkE C ta σ H fun cls d H' => W cls d σ H'
theorem ps_raiseE {a : Expr} {ta : TA} {W : WX} {p pos pos2 : Pos} {k : Nat} (hc : X.calm = true) (T : ErrTxt X.prog X.K C fI qn msg) (gC : X.mg cn = some (.ref C)) (hr : Room k X.A) (tk : Takes X W) (ha : PA X [a] ta) (hg : Gl X cn)
    (hdb : (cn == ("__debug__" : Str)) = false := by decide)
    (he : starEach (a :: []) X.env = (false, eval a X.env) :: starEach [] X.env := by rfl) (hpl : (backTo pos (starEach [] X.env)).any (·.1) = false := by rfl) :
    PS X (.Raise (some (.Call (.Name cn p) [a] [] pos)) none pos2) (tRaiseE C W ta) := ps_raise hc tk (pmk_err T gC hr ha hg hdb he hpl)
/-- e.found, e the exception that the suite holds (at a; its class cls, its dict d) -/
def tFound (C : Addr) (a : Addr) (cls : Value) (d : Option Addr) (te : TE) : TE := fun σ H Q => te σ H fun x H1 => x = .ref a ∧ cls = .ref C ∧ ∃ (dd : Addr) (v : V), d = some dd ∧ H1 dd = some (.xd [(("found" : Str), v)]) ∧ Q v H1
theorem pe_found {a : Addr} {oe : Obj} {cls : Value} {d : Option Addr} {pn : List (Addr × Obj)} {e : Expr} {te : TE} {pos : Pos} (T : ErrTxt X.prog X.K C fI qn msg) (hz : Zc cls d oe) (hf : ∃ vs, oe.data = .fields vs) (he : PE (X.suite a ((a, oe) :: pn)) e te)
    (hb : attributeBase e "found" X.env (eval e X.env) = eval e X.env := by rfl) :
    PE (X.suite a ((a, oe) :: pn)) (.Attribute e "found" pos) (tFound C a cls d te) := by
  constructor
  intro pins s σ H Q I h
  refine attr_of hb (thn (he.run pins s σ H _ I h) ?_)
  rintro u s1 ⟨x, H1, I1, rx, ex, ec, dd, v, ed, ea, q⟩
  subst ex
  obtain rfl : u = Value.ref a := rx
  subst ec
  subst ed
  have ha := (I1.pin (a, oe) (List.mem_append_left _ List.mem_cons_self)).1
  obtain ⟨vs, hd⟩ := hf
  have hx : ObjOk X.prog X.w H1 s1.heap dd (.xd [(("found" : Str), v)]) := I1.hok dd _ ea
  obtain ⟨mA, hns, hr⟩ := hx
  obtain ⟨od, ho, hl⟩ := lookIn_ns hns
  have l : List.lookup ("found" : Str) [(("found" : Str), v)] = some v := by simp [List.lookup]
  obtain ⟨u, hu, ru⟩ := RelO.some_of (v := v) (o := mA "found") (by rw [← l]; exact hr "found")
  have J : PySem.W.InstAt s1.heap a oe C (some od) := by
    refine ⟨ha, hz.1, ?_, by rw [hz.2]; exact ho⟩
    unfold PySem.W.notCls
    rw [hd]
    all_goals rfl
  exact HandSPX.exc_get I1.kIn J T.ga T.gg T.exC (PySem.W.findObj_own T.hdC T.noN rfl (by rw [hl, hu])) (handed_of ru) ⟨v, H1, I1.tok _, ru, q⟩
/-- what a class of errors must say so that isinstance asks it -/
structure IsTxt (K : PySem.W.Frag) (C : Addr) : Prop where
  ha : PySem.W.findIn K (.ref C) "__class__" = some (some (.builtin "object.__class__"))
  hn : PySem.W.specialIn K (.builtin "object.__class__") "__get__" = some (some (.builtin "getset_descriptor.__get__"))
  ht : PySem.W.takesIn K (.builtin "object.__class__") = some true
  hm : PySem.W.mroIn K C (.type "object") = some true
/-- isinstance(e, c), e the exception that the suite holds, with its own dict -/
def rIsF (K : PySem.W.Frag) (C a : Addr) (cls : Value) (d : Option Addr) : List V → Hp → VK → Prop := fun xs H Q => ∃ (c : V) (cv : Value) (b : Bool) (dd : Addr) (v : V), xs = [.ref a, c] ∧ cls = .ref C ∧ d = some dd ∧
  H dd = some (.xd [(("found" : Str), v)]) ∧ ClsV c cv ∧ PySem.W.kitOne K (.ref C) cv = some b ∧ Q (.bl b) H
theorem call_isF {a : Addr} {oe : Obj} {cls : Value} {d : Option Addr} {pn : List (Addr × Obj)} (T : ErrTxt X.prog X.K C fI qn msg) (S : IsTxt X.K C) (hz : Zc cls d oe) (hf : ∃ vs, oe.data = .fields vs) :
    CallR (X.suite a ((a, oe) :: pn)) (.builtin "isinstance") (rIsF X.K C a cls d) := by
  intro pins s σ H xs us Q I r h
  obtain ⟨c, cv, b, dd, v, rfl, rfl, rfl, ea, hcv, e, q⟩ := h
  obtain ⟨u1, u2, rfl, r1, r2⟩ := vals2 r
  cases (show u1 = Value.ref a from r1)
  have e2 := hcv.eq r2
  subst e2
  have ha := (I.pin (a, oe) (List.mem_append_left _ List.mem_cons_self)).1
  obtain ⟨vs, hd⟩ := hf
  have hx : ObjOk X.prog X.w H s.heap dd (.xd [(("found" : Str), v)]) := I.hok dd _ ea
  obtain ⟨mA, hns, _⟩ := hx
  obtain ⟨od, ho, _⟩ := lookIn_ns hns
  have J : PySem.W.InstAt s.heap a oe C (some od) := by
    refine ⟨ha, hz.1, ?_, by rw [hz.2]; exact ho⟩
    unfold PySem.W.notCls
    rw [hd]
    all_goals rfl
  have hcl : (PySem.W.clsIn X.K C).isSome = true := by
    obtain ⟨cd, hc, _⟩ := PySem.W.any_some T.hdC
    rw [hc]
    rfl
  exact PySem.W.kia_one (PySem.W.kitx_exc hcl T.ga T.gg T.exC S.ha S.hn S.ht S.hm) I.kIn J e (fun z => nomatch z) fun tk => ⟨.bl b, H, I.kept (t' := tk) fun _ _ z => z, rfl, q⟩
end
end Ge
/-! Defs that raise, their promise kept where no repr is under way. -/
namespace Gd
open PySem PySem.Spec PyProof.Rows L2
structure CalX (P : Program) (w : World) (K : PySem.W.Frag) (mg : Str → Option Value) (base : Heap) (k : Nat) (x : Str) (sp : Sp) : Prop where
  ex : ∃ (f : Addr) (fd : FuncData) (ps : List Str), FnG P w K mg base (L2.CX P w) k f fd ps sp ∧ mg x = some (.ref f) ∧
    PySem.W.keepIn K (.ref f) = true ∧ Binds K fd ps []
section
variable {P : Program} {w : World} {K : PySem.W.Frag} {mg : Str → Option Value} {base : Heap}
theorem okGX {x qual : Str} {st : Stmt} {f : Addr} {fd : FuncData} {N ps : List Str} {k : Nat} {sp : Sp}
    (F : Fun K x qual st f fd) (S : FnScope N ps (defScope st))
    (ar : ∀ vs H Q E, sp vs H Q E → vs.length = ps.length)
    (bd : ∀ (cdv : Value) (A : Around) (outer : List Env) (s : Shared) (H : Hp) (vs : List V) (Q : VK) (E : XK),
      A.guards = some [] → Room k (A.deeper (envOfC qual (defScope st) s.heap.objs.size f cdv)) → sp vs H Q E →
      ∃ t, PSs (cxOf (L2.CX P w) P w K mg base N qual (defScope st) f cdv A outer s H E) (defBody st) t ∧
        t { nx := fun _ H' => Q .non H', rt := Q } (start N vs) H) :
    FnG P w K mg base (L2.CX P w) (k + 1) f fd ps sp := by
  obtain ⟨oc, od, kV, doc, pm, an, cdv, ct, osl, rfl, lk, cin⟩ := F.ex
  exact fnG_of lk cin S ar fun A outer s H vs Q E hG room prem => bd cdv A outer s H vs Q E hG room prem
theorem DefAt.calX {x : Str} {st : Stmt} {N ps : List Str} {k : Nat} {sp : Sp} (D : DefAt K mg x st ps) (S : FnScope N ps (defScope st))
    (ar : ∀ vs H Q E, sp vs H Q E → vs.length = ps.length)
    (bd : ∀ (f : Addr) (cdv : Value) (A : Around) (outer : List Env) (s : Shared) (H : Hp) (vs : List V) (Q : VK) (E : XK),
      A.guards = some [] → Room k (A.deeper (envOfC x (defScope st) s.heap.objs.size f cdv)) → sp vs H Q E →
      ∃ t, PSs (cxOf (L2.CX P w) P w K mg base N x (defScope st) f cdv A outer s H E) (defBody st) t ∧
        t { nx := fun _ H' => Q .non H', rt := Q } (start N vs) H) : CalX P w K mg base (k + 1) x sp := by
  obtain ⟨f, fd, F, m, b⟩ := D.ex
  exact ⟨f, fd, ps, okGX F S ar (bd f), m, F.kp, b⟩
end
section
variable {X : Cx} {k : Nat} {sp : Sp} {x : Str} {p pos : Pos} {e : Expr} {es : List Expr} {t : TA} {E : L2.St → XK}
theorem enterX {CX : CXT} {f : Addr} {fd : FuncData} {ps : List Str} {pins : List (Addr × Obj)} {σ : L2.St} {H : Hp} {s : Shared} {Q : VK} {us : List Value} {vs : List V} (F : FnG X.prog X.w X.K X.mg X.base CX k f fd ps sp) (hG : X.A.guards = some []) (hr : Room k X.A) (hb : Binds X.K fd ps []) (hx : PassesAt CX X σ (E σ))
    (I : Inv X pins σ H s) (r : Vals vs us) (h : sp vs H Q (E σ)) : wpAny (model X.prog X.w) X.A (call (.ref f) us) (EP X pins σ Q) X.xe s := by
  have hl : us.length = ps.length := r.length ▸ F.arity _ _ _ _ h
  have b := hb s us I.kIn (by rw [List.append_nil]; exact hl)
  rw [List.append_nil] at b
  apply wpAny_call
  apply codeAny_mono (F.go X.A X.stack s H ⟨us, []⟩ us vs Q (E σ) hG hr I.env0 b r h)
  intro r s' hq
  match r, hq with
  | .error e, hq => exact hx pins H s e s' I hq
  | .ok (.ret u), hq => exact I.after hq
  | .ok .next, hq => exact hq.elim
  | .ok .brk, hq => exact hq.elim
  | .ok .cont, hq => exact hq.elim
/-- f(e, ..) of a def that may raise, its promise kept where no repr is under way -/
theorem pe_gx {W : WX} (c : CalX X.prog X.w X.K X.mg X.base k x sp) (hG : X.A.guards = some []) (hr : Room k X.A) (hg : Gl X x) (tk : Takes X W)
    (ha : PA X (e :: es) t) (hdb : (x == ("__debug__" : Str)) = false := by decide)
    (he : starEach (e :: es) X.env = (false, eval e X.env) :: starEach es X.env := by rfl)
    (hpl : (backTo pos (starEach es X.env)).any (·.1) = false := by rfl) :
    PE X (.Call (.Name x p) (e :: es) [] pos) (tCallS sp (WE W) t) := by
  obtain ⟨f, fd, ps, F, m, kp, b⟩ := c.ex
  constructor
  intro pins s σ H Q J prem
  have arg := ha.run pos pins s σ H _ J prem
  apply wpAny_Call_Name_kw
  apply ld_glob J hg m (hd := hdb)
  apply PySem.W.callWith_K (h₀ := X.base) J.ok.mod.kin kp (he := he) (hplain := hpl)
  apply thn arg
  rintro us s1 ⟨vs, H1, J1, rel, q⟩
  exact ⟨J1.kIn, enterX (E := WE W) F hG hr b (passAt tk σ) J1 rel q⟩
/-- the same, where it raises nothing -/
theorem pe_gN (c : CalX X.prog X.w X.K X.mg X.base k x sp) (hG : X.A.guards = some []) (hr : Room k X.A) (hg : Gl X x)
    (ha : PA X (e :: es) t) (hdb : (x == ("__debug__" : Str)) = false := by decide)
    (he : starEach (e :: es) X.env = (false, eval e X.env) :: starEach es X.env := by rfl)
    (hpl : (backTo pos (starEach es X.env)).any (·.1) = false := by rfl) :
    PE X (.Call (.Name x p) (e :: es) [] pos) (tCall sp [] E0 t) := by
  obtain ⟨f, fd, ps, F, m, kp, b⟩ := c.ex
  exact pe_callG F hG hr hg m kp b .nil passL ha hdb he hpl
end
end Gd
/-! A method whose body begins with a call of super().m(..), an own class's, the method that it finds a def that keeps its promise. -/
namespace Gs
open PySem PySem.Spec PyProof.Rows L2 Gd NdefX
open PySem.Calls
open PySem.W (Frag ksFn ks_superIn ks_loadName_global looks_mroIn looks_opaque looks_clsIn clsIn)
/-- what the written part says of the def F at f, of class D, and of super().m in it, g above D as seen from C -/
structure SupTxt (P : Program) (K : Frag) (C D f g cc : Addr) (F : NF) (m : Str) : Prop where
  fn : ∃ (oc : Value) (od : Option Addr) (doc pm : Value) (an : Option Addr) (ct : Value) (osl : Array (Option Value)),
    K.lookup f = some ⟨oc, od, .func (ksFn F.name F.qual F.params F.body F.scope .none .none doc pm an (.ref F.c) ct cc), osl⟩
  cl : F.cl = [(("__class__" : Str), cc)]
  code : PySem.W.codeIn K (.ref F.c) F.qual = true
  cod : ∃ (ccl : Value) (cdd : Option Addr) (vs : Array Value) (ccs : Array (Option Value)) (file : Str) (tf : Tok),
    K.lookup F.c = some ⟨ccl, cdd, .fields vs, ccs⟩ ∧ vs[2]? = some (.str file tf) ∧ ((P.main.file : Str) == file) = true
  cell : ∃ (cv : Value) (cd : Option Addr) (csl : Array (Option Value)), K.lookup cc = some ⟨cv, cd, .cell (some (.ref D)), csl⟩
  isD : ∃ cd, clsIn K D = some cd
  sub : PySem.W.mroIn K C (.ref D) = some true
  sup : ks_superIn K C D m = some (some (.ref g))
  ty : PySem.W.typeIn K (.ref g) = some (.type "function")
  fg : PySem.W.fnIn K g = true
  op : PySem.W.nsIn K cStatics "thirdparty.any" = some none
  zs : PySem.W.nsIn K mainGlobals "super" = some none
  htop : (P.main.scope.names.lookup ("super" : Str)).isSome = false
  hm : (m == ("__class__" : Str)) = false
  hks : F.scope.names.lookup ("super" : Str) = some .globalImplicit
  hkc : F.scope.names.lookup ("__class__" : Str) = some .free
  hself : F.scope.names.lookup ("self" : Str) = some .local
  arg : ∃ ar, (F.params.posonlyargs ++ F.params.args).head? = some ar ∧ ar.arg = "self"
section
variable {CX : CXT} {P : Program} {w : World} {K : Frag} {mg : Str → Option Value} {base : Heap} {N : List Str} {F : NF} {f g C D cc : Addr} {A : Around} {outer : List Env} {s0 : Shared} {H0 : Hp} {E0 : XK} {m : Str}
theorem at_super {body : List Stmt} {p0 p1 apos pos : Pos} {args : List Expr} {s : Shared} {pins : List (Addr × Obj)} {σ : L2.St} {H : Hp} {x dx : Addr} {fs : List (Str × V)} {Q : Value → Shared → Prop}
    (T : SupTxt P K C D f g cc F m) (hline : (apos.endLine == pos.line) = true)
    (hform : methodCallForm (args.length + ([] : List Keyword).length) (backTo pos (starEach args (envF F f s0.heap.objs.size))) (backToKw pos (keywordEach [] (envF F f s0.heap.objs.size))) = true)
    (I : Inv (ncx CX P w K mg base N F f A outer s0 H0 E0) pins σ H s) (hN : N[0]? = some ("self" : Str)) (hσ : σ[0]? = some (some (.ref x))) (hx : H x = some (.ins C dx fs))
    (h : ∀ (q : Addr) (s' : Shared), Inv (ncx CX P w K mg base N F f A outer s0 H0 E0) (pins ++ [(q, PySem.W.methodObj (.ref g) (.ref x))]) σ H s' →
      wpAny (model P w) (ncx CX P w K mg base N F f A outer s0 H0 E0).A (callWith pos (.ref q) [] (backTo pos (starEach args (envF F f s0.heap.objs.size))) (backToKw pos (keywordEach [] (envF F f s0.heap.objs.size)))) Q (ncx CX P w K mg base N F f A outer s0 H0 E0).xe s') :
    _root_.PySem.wpAt (model P w) (ncx CX P w K mg base N F f A outer s0 H0 E0).A (.func body (envF F f s0.heap.objs.size))
      (eval (.Call (.Attribute (.Call (.Name "super" p0) [] [] p1) m apos) args [] pos) (envF F f s0.heap.objs.size)) Q (ncx CX P w K mg base N F f A outer s0 H0 E0).xe s := by
  obtain ⟨oc, od, doc, pm, an, ct, osl, hf⟩ := T.fn
  obtain ⟨ccl, cdd, vs, ccs, file, tf, hcode, hvs, hfile⟩ := T.cod
  obtain ⟨cv, cd0, csl, hcell⟩ := T.cell
  obtain ⟨ar, harg, hself⟩ := T.arg
  obtain ⟨cdD, hD⟩ := T.isD
  have X := I.kIn
  obtain ⟨mb, hbl0, hbb⟩ := I.mod.blt
  have hgl := I.mod.glob.keeps I.bk
  have hbl := hbl0.keeps I.bk
  have hzs := PySem.W.mg_none_of I.mod.kin I.mod.glob T.zs
  obtain ⟨mA, O, _⟩ := ins_get I.hok hx
  obtain ⟨ml, hns, look⟩ := I.loc
  refine Ge.at_method hline hform ?_
  refine ks_wpAt_super_base T.hks T.hkc T.hm rfl (X _ _ hf) rfl harg rfl (X _ _ hcode) rfl hvs hfile T.htop ?_
  refine ks_loadName_global I.ok.kind T.hks (loadGlobal_builtin hgl hzs hbl ((hbb _ (by decide +kernel)).trans (by decide +kernel : bootBuiltins "super" = some (.type "super"))) ⟨rfl, ?_⟩)
  refine wpAny_loadName_free I.ok.kind T.hkc (by show F.cl.lookup _ = _; rw [T.cl]; rfl) ⟨_, X _ _ hcell, rfl⟩ ?_
  have eS : (ncx CX P w K mg base N F f A outer s0 H0 E0).env.scope.names.lookup ("self" : Str) = some .local := T.hself
  obtain ⟨u, ru, lk⟩ := look 0 ("self" : Str) (.ref x) hN hσ (.inl eS)
  have hml : ml ("self" : Str) = some (.ref x) := by
    rcases lk with ⟨_, z⟩ | ⟨z, _⟩
    · rw [z]
      exact congrArg some ru
    · rcases z with z | z
      · have : some NameKind.local = some NameKind.cell := eS.symm.trans z
        cases this
      · have : some NameKind.local = some NameKind.free := eS.symm.trans z
        cases this
  refine wpAny_loadName_local I.ok.kind (by rw [hself]; exact T.hself) hns (v := .ref x) (by rw [hself]; exact hml) ?_
  obtain ⟨oD, hD1, hD2⟩ : ∃ oD, s.heap.get? D = some oD ∧ oD.data = .cls cdD := by
    unfold clsIn at hD
    split at hD
    · rename_i c d cd' sl ho
      cases hD
      exact ⟨_, X _ _ ho, rfl⟩
    · cases hD
  refine ks_wpAny_isType_cls hD1 hD2 ⟨rfl, ?_⟩
  obtain ⟨hp, gs, dr, tk, os⟩ := s
  refine ks_wpAny_call_super hD1 hD2 O.obj rfl (fun c e => nomatch e) (looks_mroIn X T.sub) (fun h₂ e₂ k₂ => ?_)
  have J2 : Inv (ncx CX P w K mg base N F f A outer s0 H0 E0) pins σ H ⟨h₂, gs, dr, tk, os⟩ := I.kept (t' := tk) k₂
  have X₂ := J2.kIn
  have hsup := T.sup
  cases hc : clsIn K C with
  | none =>
    unfold ks_superIn at hsup
    rw [hc] at hsup
    cases hsup
  | some cd =>
    unfold ks_superIn at hsup
    rw [hc] at hsup
    obtain ⟨of, hof, hofc⟩ : ∃ of, h₂.get? g = some of ∧ of.cls = .type "function" := by
      have ht := T.ty
      have ht' : (K.lookup g).map (·.cls) = some (.type "function") := ht
      cases z : K.lookup g with
      | none =>
        rw [z] at ht'
        cases ht'
      | some of =>
        rw [z] at ht'
        exact ⟨of, X₂ _ _ z, Option.some.inj ht'⟩
    have hxC : x ≠ C := fun e => by
      unfold clsIn at hc
      cases z : K.lookup C with
      | none =>
        rw [z] at hc
        cases hc
      | some oC =>
        have hb := I.mod.kin _ _ z
        have := (I.bs C oC hb).2
        rw [← e, hx] at this
        cases this
    refine ks_wpAny_getMethod_super e₂ (looks_opaque X₂ T.op) (l₀ := cd.mro) ?_ rfl X₂ hsup hof hofc hxC T.hm ?_
    · exact fun A Q E s k q => wpAny_bind ((looks_clsIn X₂ hc) A _ E s k (wpAny_pure q))
    · have k₃ : ∀ b o, h₂.get? b = some o → (h₂.push (PySem.W.methodObj (.ref g) (.ref x))).get? b = some o := fun b o e => Heap.get?_push_of_some _ e
      have J3 : Inv (ncx CX P w K mg base N F f A outer s0 H0 E0) pins σ H ⟨h₂.push (PySem.W.methodObj (.ref g) (.ref x)), gs, dr, tk + 1, os⟩ := J2.kept (t' := tk + 1) k₃
      refine h h₂.objs.size _ (J3.pins_of fun p hp => ?_)
      rcases List.mem_append.mp hp with hp | hp
      · exact J3.pin p (List.mem_append_right _ hp)
      · rw [List.mem_singleton.mp hp]
        refine ⟨Heap.get?_push_at rfl rfl, J2.hok.fresh (Nat.le_refl _), Nat.ne_of_gt J2.lt, J2.nofs (Nat.le_refl _), fun v e => nomatch e⟩
/-- a call of the found method, its self bound -/
theorem run_bound {X : Cx} {CX2 : CXT} {k : Nat} {g q x : Addr} {fd : FuncData} {ps : List Str} {sp : Sp} {E : XK} {pins : List (Addr × Obj)} {σ : L2.St} {H : Hp} {s : Shared} {Q : VK} {us : List Value} {vs : List V}
    (G : FnOk X.prog X.w X.K X.mg X.base CX2 k g fd ps sp) (hr : Room k X.A) (hb : Binds X.K fd ps []) (hx : Passes CX2 X E) (I : Inv X pins σ H s)
    (hq : s.heap.get? q = some (PySem.W.methodObj (.ref g) (.ref x))) (r : Vals vs us) (h : sp (.ref x :: vs) H Q E) :
    wpAny (model X.prog X.w) X.A (call (.ref q) us) (EP X pins σ Q) X.xe s := by
  have r2 : Vals (.ref x :: vs) (.ref x :: us) := .cons rfl r
  have long : (Value.ref x :: us).length = ps.length := r2.length ▸ G.len _ _ _ _ h
  have b := hb s (.ref x :: us) I.kIn (by rw [List.append_nil]; exact long)
  rw [List.append_nil] at b
  apply wpAny_call
  apply ks_codeAny_call_bound hq
  apply codeAny_mono (G.run X.A X.stack s H ⟨.ref x :: us, []⟩ (.ref x :: us) (.ref x :: vs) Q E hr I.env0 b r2 h)
  intro r s' hs
  match r, hs with
  | .error _, hs => exact hx pins σ H s _ s' I hs
  | .ok (.ret _), hs => exact I.after hs
  | .ok .next, hs => exact hs.elim
  | .ok .brk, hs => exact hs.elim
  | .ok .cont, hs => exact hs.elim
/-- super().m(e, ..) as a value -/
theorem eval_super {CX2 : CXT} {k : Nat} {fd : FuncData} {ps : List Str} {sp : Sp} {E : XK} {body : List Stmt} {p0 p1 apos pos : Pos} {e : Expr} {es : List Expr} {ta : TA} {s : Shared} {pins : List (Addr × Obj)} {σ : L2.St} {H : Hp} {x dx : Addr} {fs : List (Str × V)} {Q : VK}
    (T : SupTxt P K C D f g cc F m) (hline : (apos.endLine == pos.line) = true)
    (hform : methodCallForm ((e :: es).length + ([] : List Keyword).length) (backTo pos (starEach (e :: es) (envF F f s0.heap.objs.size))) (backToKw pos (keywordEach [] (envF F f s0.heap.objs.size))) = true)
    (I : Inv (ncx CX P w K mg base N F f A outer s0 H0 E0) pins σ H s) (hN : N[0]? = some ("self" : Str)) (hσ : σ[0]? = some (some (.ref x))) (hx : H x = some (.ins C dx fs))
    (G : FnOk P w K mg base CX2 k g fd ps sp) (hr : Room k (ncx CX P w K mg base N F f A outer s0 H0 E0).A) (hb : Binds K fd ps []) (hp : Passes CX2 (ncx CX P w K mg base N F f A outer s0 H0 E0) E)
    (ha : PA (ncx CX P w K mg base N F f A outer s0 H0 E0) (e :: es) ta)
    (he : starEach (e :: es) (envF F f s0.heap.objs.size) = (false, eval e (envF F f s0.heap.objs.size)) :: starEach es (envF F f s0.heap.objs.size))
    (hpl : (backTo pos (starEach es (envF F f s0.heap.objs.size))).any (·.1) = false)
    (h : ta σ H fun vs H1 => sp (.ref x :: vs) H1 Q E) :
    _root_.PySem.wpAt (model P w) (ncx CX P w K mg base N F f A outer s0 H0 E0).A (.func body (envF F f s0.heap.objs.size))
      (eval (.Call (.Attribute (.Call (.Name "super" p0) [] [] p1) m apos) (e :: es) [] pos) (envF F f s0.heap.objs.size)) (EP (ncx CX P w K mg base N F f A outer s0 H0 E0) pins σ Q) (ncx CX P w K mg base N F f A outer s0 H0 E0).xe s := by
  refine at_super T hline hform I hN hσ hx fun q s' J => ?_
  have run := ha.run pos _ s' σ H _ J h
  rw [show starEach (e :: es) (envF F f s0.heap.objs.size) = _ from he]
  rw [show starEach (e :: es) (ncx CX P w K mg base N F f A outer s0 H0 E0).env = _ from he] at run
  apply PySem.W.callWith_of (P := PySem.W.MethP K q g (.ref x)) (by show ((false || (backTo pos (starEach es _)).any (·.1)) || false) = false; rw [hpl]; rfl) (PySem.W.keeps_M T.fg)
  apply evalArgs_plain
  apply thn run
  rintro us s1 ⟨vs, H1, J1, rel, q1⟩
  have hq := (J1.pin (q, PySem.W.methodObj (.ref g) (.ref x)) (List.mem_append_right _ (List.mem_append_right _ List.mem_cons_self))).1
  refine ⟨⟨hq, J1.kIn⟩, ?_⟩
  refine wpAny_mono (run_bound (pins := pins ++ [(q, PySem.W.methodObj (.ref g) (.ref x))]) G hr hb hp J1 hq rel q1) (fun v s2 hv => ?_) fun _ _ z => z
  obtain ⟨y, H2, J2, ry, qy⟩ := hv
  exact ⟨y, H2, J2.pins_of fun p hp => J2.pin p (List.mem_append_right _ (List.mem_append_left _ hp)), ry, qy⟩
theorem cells_at (T : SupTxt P K C D f g cc F m) (e0 : Env0 P w K mg base A outer s0 H0) : CellsAt F.cl ["__class__"] [some (.ref D)] s0.heap H0 := by
  obtain ⟨cv, cd0, csl, hcell⟩ := T.cell
  have hb := e0.mod.kin _ _ hcell
  obtain ⟨h1, h2⟩ := e0.bs _ _ hb
  have hl : ∀ y c, F.cl.lookup y = some c → y = ("__class__" : Str) ∧ c = cc := fun y c z => by
    rw [T.cl] at z
    by_cases e : y = ("__class__" : Str)
    · subst e
      refine ⟨rfl, ?_⟩
      simpa [List.lookup] using z.symm
    · have e2 : (y == ("__class__" : Str)) = false := by simpa using e
      simp [List.lookup, e2] at z
  refine ⟨rfl, fun y c z => ?_, fun a b c z1 z2 => (hl a c z1).1.trans (hl b c z2).1.symm, fun i y z => ?_⟩
  · rw [(hl y c z).2]
    exact ⟨h2, _, _, h1, rfl⟩
  · cases i with
    | zero =>
      cases (show some ("__class__" : Str) = some y from z)
      refine ⟨cc, by rw [T.cl]; simp [List.lookup], fun v ev => ?_⟩
      cases (show some (some (V.ref D)) = some (some v) from ev)
      exact ⟨.ref D, rfl, _, h1, rfl⟩
    | succ n => cases z
/-- a def y = super().m(e, ..); .. keeps its promise -/
theorem okS_set {CX2 : CXT} {k i : Nat} {fd2 : FuncData} {ps ps2 : List Str} {sp sp2 : Sp} {p0 p1 apos pos py pst : Pos} {e : Expr} {es : List Expr} {st : List Stmt} {y : Str}
    {oc : Value} {od : Option Addr} {doc pm : Value} {an : Option Addr} {ct : Value} {osl : Array (Option Value)}
    (T : SupTxt P K C D f g cc F m) (hf : K.lookup f = some ⟨oc, od, .func (ksFn F.name F.qual F.params F.body F.scope .none .none doc pm an (.ref F.c) ct cc), osl⟩)
    (S : NScope N ps ["__class__"] F.scope)
    (hbd : F.body = .Assign [.Name y py] (.Call (.Attribute (.Call (.Name "super" p0) [] [] p1) m apos) (e :: es) [] pos) pst :: st)
    (ar : ∀ vs H Q E, sp vs H Q E → vs.length = ps.length) (hN : N[0]? = some ("self" : Str)) (hi : N[i]? = some y) (hy : F.scope.names.lookup y = some .local)
    (G : FnOk P w K mg base CX2 k g fd2 ps2 sp2) (hb2 : Binds K fd2 ps2 [])
    (hline : (apos.endLine == pos.line) = true)
    (hform : ∀ L, methodCallForm ((e :: es).length + ([] : List Keyword).length) (backTo pos (starEach (e :: es) (envF F f L))) (backToKw pos (keywordEach [] (envF F f L))) = true)
    (he : ∀ L, starEach (e :: es) (envF F f L) = (false, eval e (envF F f L)) :: starEach es (envF F f L))
    (hpl : ∀ L, (backTo pos (starEach es (envF F f L))).any (·.1) = false)
    (hsw : ∀ L, swapsWith (.Call (.Attribute (.Call (.Name "super" p0) [] [] p1) m apos) (e :: es) [] pos) (some (.Name y py)) pst.line (envF F f L) = pure false)
    (bd : ∀ (A : Around) (outer : List Env) (s : Shared) (H : Hp) (vs : List V) (Q : VK) (E : XK), Room k (A.deeper (envF F f s.heap.objs.size)) → sp vs H Q E →
      ∃ (x dx : Addr) (fs : List (Str × V)) (E2 : XK) (ta : TA) (tr : TS), (startF N vs [some (.ref D)])[0]? = some (some (.ref x)) ∧ H x = some (.ins C dx fs) ∧ Passes CX2 (ncx CX P w K mg base N F f A outer s H E) E2 ∧
        PA (ncx CX P w K mg base N F f A outer s H E) (e :: es) ta ∧ PSs (ncx CX P w K mg base N F f A outer s H E) st tr ∧
        ta (startF N vs [some (.ref D)]) H fun ws H1 => sp2 (.ref x :: ws) H1 (fun v H2 => tr { nx := fun _ H' => Q .non H', rt := Q } ((startF N vs [some (.ref D)]).set i (some v)) H2) E2) :
    FnOk P w K mg base CX (k + 1) f (ksFn F.name F.qual F.params F.body F.scope .none .none doc pm an (.ref F.c) ct cc) ps sp := by
  refine ⟨ar, fun A outer s H args us vs Q E room env bind rel prem => ?_⟩
  have kin : K.In s.heap := env.mod.kin.keeps fun b o z => (env.bs b o z).1
  have nl : s.heap.NoLimit := env.mod.nolimit.keeps fun b o z => (env.bs b o z).1
  have long := ar _ _ _ _ prem
  obtain ⟨x, dx, fs, E2, ta, tr, hσ, hx, hp, ha, hr, q⟩ := bd A outer s H vs Q E (room.deeper _) prem
  have cells := cells_at T env
  have TT := T
  obtain ⟨nm, qual, params, body, scope, cl, c⟩ := F
  have hcl : cl = [(("__class__" : Str), cc)] := T.cl
  subst hcl
  refine ks_codeAny_call_defAt (binds := ps.zip us) room.depth (kin _ _ hf) rfl nl (PySem.W.codeRec_of kin T.code) rfl bind S.nocell (fun z hz => S.par z.1 (List.of_mem_zip hz).1) (fun h₁ hns k₁ => ?_) S.co S.gen S.kind
  have I : Inv (ncx CX P w K mg base N ⟨nm, qual, params, body, scope, [(("__class__" : Str), cc)], c⟩ f A outer s H E) [] (startF N vs [some (.ref D)]) H { s with heap := h₁, toks := s.toks + (ps.zip us).length } := inv_startN S room.hd env long rel cells hns k₁
  have hbd2 : body = .Assign [.Name y py] (.Call (.Attribute (.Call (.Name "super" p0) [] [] p1) m apos) (e :: es) [] pos) pst :: st := hbd
  subst hbd2
  generalize hF : (⟨nm, qual, params, .Assign [.Name y py] (.Call (.Attribute (.Call (.Name "super" p0) [] [] p1) m apos) (e :: es) [] pos) pst :: st, scope, [(("__class__" : Str), cc)], c⟩ : NF) = F at *
  have W : _root_.PySem.wpAt (model P w) (ncx CX P w K mg base N F f A outer s H E).A (.func F.body (envF F f s.heap.objs.size)) (execs F.body (envF F f s.heap.objs.size))
      (SP (ncx CX P w K mg base N F f A outer s H E) [] { nx := fun _ H' => Q .non H', rt := Q }) (ncx CX P w K mg base N F f A outer s H E).xe { s with heap := h₁, toks := s.toks + (ps.zip us).length } := by
    rw [hbd]
    apply ks_wpAt_execs_cons
    apply ks_wpAt_Assign_Name (hs := hsw _)
    apply PySem.ks_wpAt_mono (eval_super (σ := startF N vs [some (.ref D)]) TT hline (hform _) I hN hσ hx G (room.deeper _) hb2 hp ha (he _) (hpl _) q)
    · intro v s1 hv
      obtain ⟨u, H1, I1, ru, q1⟩ := hv
      apply store_ok I1 S.nd hi (.inl hy) ru (hf := .inr hy)
      intro s2 I2
      exact _root_.PySem.wpAt_of_wpAny (hr.run [] s2 _ H1 _ I2 q1)
    · exact fun _ _ z => z
  subst hF
  refine PySem.ks_wpAt_mono W (fun fl s' hs => ?_) fun _ _ z => z
  · cases fl with
    | ret u =>
      obtain ⟨v, σ2, H2, J, rv, qv⟩ := hs
      exact ⟨v, H2, J.os, J.bare, J.base, J.hok, rv, qv⟩
    | next =>
      obtain ⟨σ2, H2, J, qv⟩ := hs
      exact ⟨.non, H2, J.os, J.bare, J.base, J.hok, rfl, qv⟩
    | brk =>
      obtain ⟨_, _, _, qv⟩ := hs
      exact qv.elim
    | cont =>
      obtain ⟨_, _, _, qv⟩ := hs
      exact qv.elim
/-- super().m() as a value -/
theorem eval_super0 {CX2 : CXT} {k : Nat} {fd : FuncData} {ps : List Str} {sp : Sp} {E : XK} {body : List Stmt} {p0 p1 apos pos : Pos} {s : Shared} {pins : List (Addr × Obj)} {σ : L2.St} {H : Hp} {x dx : Addr} {fs : List (Str × V)} {Q : VK}
    (T : SupTxt P K C D f g cc F m) (hline : (apos.endLine == pos.line) = true)
    (hform : methodCallForm (([] : List Expr).length + ([] : List Keyword).length) (backTo pos (starEach [] (envF F f s0.heap.objs.size))) (backToKw pos (keywordEach [] (envF F f s0.heap.objs.size))) = true)
    (I : Inv (ncx CX P w K mg base N F f A outer s0 H0 E0) pins σ H s) (hN : N[0]? = some ("self" : Str)) (hσ : σ[0]? = some (some (.ref x))) (hx : H x = some (.ins C dx fs))
    (G : FnOk P w K mg base CX2 k g fd ps sp) (hr : Room k (ncx CX P w K mg base N F f A outer s0 H0 E0).A) (hb : Binds K fd ps []) (hp : Passes CX2 (ncx CX P w K mg base N F f A outer s0 H0 E0) E)
    (h : sp [.ref x] H Q E) :
    _root_.PySem.wpAt (model P w) (ncx CX P w K mg base N F f A outer s0 H0 E0).A (.func body (envF F f s0.heap.objs.size))
      (eval (.Call (.Attribute (.Call (.Name "super" p0) [] [] p1) m apos) [] [] pos) (envF F f s0.heap.objs.size)) (EP (ncx CX P w K mg base N F f A outer s0 H0 E0) pins σ Q) (ncx CX P w K mg base N F f A outer s0 H0 E0).xe s := by
  refine at_super T hline hform I hN hσ hx fun q s' J => ?_
  have hq := (J.pin (q, PySem.W.methodObj (.ref g) (.ref x)) (List.mem_append_right _ (List.mem_append_right _ List.mem_cons_self))).1
  apply PySem.W.callWith_of (P := PySem.W.MethP K q g (.ref x)) rfl (PySem.W.keeps_M T.fg)
  apply evalArgs_nil3
  refine ⟨⟨hq, J.kIn⟩, ?_⟩
  refine wpAny_mono (run_bound (us := []) (vs := []) (pins := pins ++ [(q, PySem.W.methodObj (.ref g) (.ref x))]) G hr hb hp J hq .nil h) (fun v s2 hv => ?_) fun _ _ z => z
  obtain ⟨y, H2, J2, ry, qy⟩ := hv
  exact ⟨y, H2, J2.pins_of fun p hp => J2.pin p (List.mem_append_right _ (List.mem_append_left _ hp)), ry, qy⟩
/-- a def super().m(); .. keeps its promise -/
theorem okS_do {CX2 : CXT} {k : Nat} {fd2 : FuncData} {ps ps2 : List Str} {sp sp2 : Sp} {p0 p1 apos pos pst : Pos} {st : List Stmt}
    {oc : Value} {od : Option Addr} {doc pm : Value} {an : Option Addr} {ct : Value} {osl : Array (Option Value)}
    (T : SupTxt P K C D f g cc F m) (hf : K.lookup f = some ⟨oc, od, .func (ksFn F.name F.qual F.params F.body F.scope .none .none doc pm an (.ref F.c) ct cc), osl⟩)
    (S : NScope N ps ["__class__"] F.scope)
    (hbd : F.body = .Expr (.Call (.Attribute (.Call (.Name "super" p0) [] [] p1) m apos) [] [] pos) pst :: st)
    (ar : ∀ vs H Q E, sp vs H Q E → vs.length = ps.length) (hN : N[0]? = some ("self" : Str))
    (G : FnOk P w K mg base CX2 k g fd2 ps2 sp2) (hb2 : Binds K fd2 ps2 [])
    (hline : (apos.endLine == pos.line) = true)
    (hform : ∀ L, methodCallForm (([] : List Expr).length + ([] : List Keyword).length) (backTo pos (starEach [] (envF F f L))) (backToKw pos (keywordEach [] (envF F f L))) = true)
    (hsw : ∀ L, swapsWith (.Call (.Attribute (.Call (.Name "super" p0) [] [] p1) m apos) [] [] pos) none pst.line (envF F f L) = pure false)
    (bd : ∀ (A : Around) (outer : List Env) (s : Shared) (H : Hp) (vs : List V) (Q : VK) (E : XK), Room k (A.deeper (envF F f s.heap.objs.size)) → sp vs H Q E →
      ∃ (x dx : Addr) (fs : List (Str × V)) (E2 : XK) (tr : TS), (startF N vs [some (.ref D)])[0]? = some (some (.ref x)) ∧ H x = some (.ins C dx fs) ∧ Passes CX2 (ncx CX P w K mg base N F f A outer s H E) E2 ∧
        PSs (ncx CX P w K mg base N F f A outer s H E) st tr ∧
        sp2 [.ref x] H (fun _ H2 => tr { nx := fun _ H' => Q .non H', rt := Q } (startF N vs [some (.ref D)]) H2) E2) :
    FnOk P w K mg base CX (k + 1) f (ksFn F.name F.qual F.params F.body F.scope .none .none doc pm an (.ref F.c) ct cc) ps sp := by
  refine ⟨ar, fun A outer s H args us vs Q E room env bind rel prem => ?_⟩
  have kin : K.In s.heap := env.mod.kin.keeps fun b o z => (env.bs b o z).1
  have nl : s.heap.NoLimit := env.mod.nolimit.keeps fun b o z => (env.bs b o z).1
  have long := ar _ _ _ _ prem
  obtain ⟨x, dx, fs, E2, tr, hσ, hx, hp, hr, q⟩ := bd A outer s H vs Q E (room.deeper _) prem
  have cells := cells_at T env
  have TT := T
  obtain ⟨nm, qual, params, body, scope, cl, c⟩ := F
  have hcl : cl = [(("__class__" : Str), cc)] := T.cl
  subst hcl
  refine ks_codeAny_call_defAt (binds := ps.zip us) room.depth (kin _ _ hf) rfl nl (PySem.W.codeRec_of kin T.code) rfl bind S.nocell (fun z hz => S.par z.1 (List.of_mem_zip hz).1) (fun h₁ hns k₁ => ?_) S.co S.gen S.kind
  have I : Inv (ncx CX P w K mg base N ⟨nm, qual, params, body, scope, [(("__class__" : Str), cc)], c⟩ f A outer s H E) [] (startF N vs [some (.ref D)]) H { s with heap := h₁, toks := s.toks + (ps.zip us).length } := inv_startN S room.hd env long rel cells hns k₁
  have hbd2 : body = .Expr (.Call (.Attribute (.Call (.Name "super" p0) [] [] p1) m apos) [] [] pos) pst :: st := hbd
  subst hbd2
  generalize hF : (⟨nm, qual, params, .Expr (.Call (.Attribute (.Call (.Name "super" p0) [] [] p1) m apos) [] [] pos) pst :: st, scope, [(("__class__" : Str), cc)], c⟩ : NF) = F at *
  have W : _root_.PySem.wpAt (model P w) (ncx CX P w K mg base N F f A outer s H E).A (.func F.body (envF F f s.heap.objs.size)) (execs F.body (envF F f s.heap.objs.size))
      (SP (ncx CX P w K mg base N F f A outer s H E) [] { nx := fun _ H' => Q .non H', rt := Q }) (ncx CX P w K mg base N F f A outer s H E).xe { s with heap := h₁, toks := s.toks + (ps.zip us).length } := by
    rw [hbd]
    apply ks_wpAt_execs_cons
    apply ks_wpAt_Expr_any (hi := I.quiet) (hs := hsw _)
    apply PySem.ks_wpAt_mono (eval_super0 (σ := startF N vs [some (.ref D)]) TT hline (hform _) I hN hσ hx G (room.deeper _) hb2 hp q)
    · intro v s1 hv
      obtain ⟨u, H1, I1, ru, q1⟩ := hv
      exact _root_.PySem.wpAt_of_wpAny (hr.run [] s1 _ H1 _ I1 q1)
    · exact fun _ _ z => z
  subst hF
  refine PySem.ks_wpAt_mono W (fun fl s' hs => ?_) fun _ _ z => z
  · cases fl with
    | ret u =>
      obtain ⟨v, σ2, H2, J, rv, qv⟩ := hs
      exact ⟨v, H2, J.os, J.bare, J.base, J.hok, rv, qv⟩
    | next =>
      obtain ⟨σ2, H2, J, qv⟩ := hs
      exact ⟨.non, H2, J.os, J.bare, J.base, J.hok, rfl, qv⟩
    | brk =>
      obtain ⟨_, _, _, qv⟩ := hs
      exact qv.elim
    | cont =>
      obtain ⟨_, _, _, qv⟩ := hs
      exact qv.elim
end
end Gs
/-! Methods that raise. -/
namespace Gx
open PySem PySem.Spec PyProof.Rows L2 Gd
theorem pe_or {X : Cx} {e : Expr} {t u : TE} (a : PE X e t) (b : PE X e u) : PE X e (fun σ H Q => t σ H Q ∨ u σ H Q) := ⟨fun pins s σ H Q I h => h.elim (a.run pins s σ H Q I) (b.run pins s σ H Q I)⟩
/-- a method that may raise -/
structure MetX (P : Program) (w : World) (K : PySem.W.Frag) (mg : Str → Option Value) (base : Heap) (k : Nat) (C : Addr) (m : Str) (sp : Sp) : Prop where
  ex : ∃ (f : Addr) (fd : FuncData) (ps : List Str), Cls K C ∧ Meth K C m f ∧ FnOk P w K mg base (L2.CX P w) k f fd ps sp ∧ Binds K fd ps []
def tMethX (C : Addr) (m : Str) (sp : Sp) (E : L2.St → XK) (ta : TE) (t : TA) : TE := fun σ H Q => ta σ H fun x H1 => ∃ a dx fs, x = .ref a ∧ H1 a = some (.ins C dx fs) ∧ fs.lookup m = none ∧ t σ H1 fun vs H2 => sp (x :: vs) H2 Q (E σ)
section
variable {X : Cx} {k j : Nat} {C : Addr} {m : Str} {sp : Sp} {pos apos : Pos} {e o : Expr} {es : List Expr} {ta : TE} {t : TA}
theorem pe_mtX {W : WX} {pl : Sem Bool} (c : MetX X.prog X.w X.K X.mg X.base k C m sp) (hr : Room j X.A) (hk : k ≤ j) (tk : Takes X W) (he : PE X o ta) (ha : PA X (e :: es) t)
    (hst : starEach (e :: es) X.env = (false, eval e X.env) :: starEach es X.env := by rfl) (hpl : (backTo pos (starEach es X.env)).any (·.1) = false := by rfl)
    (ht : eval (.Call (.Attribute o m apos) (e :: es) [] pos) X.env = (do
      let ov ← eval o X.env
      standAt apos.atName
      let (f, first) ← holding [ov] (getMethod ov m pl)
      callWith pos f first (backTo pos (starEach (e :: es) X.env)) (backToKw pos (keywordEach [] X.env))) := by rfl) :
    PE X (.Call (.Attribute o m apos) (e :: es) [] pos) (tMethX C m sp (WE W) ta t) := by
  obtain ⟨f, fd, ps, hc, hm, F, b⟩ := c.ex
  refine ⟨fun pins s σ H Q I h => ?_⟩
  refine PySem.W.methodCall_KW (pl := pl) (thn (he.run pins s σ H _ I h) fun u s1 ⟨x, H1, I1, rx, a, dx, fs, ex, ea, l, q⟩ => ?_) ht
  subst ex
  obtain rfl : u = Value.ref a := rx
  refine getmeth_ok I1 ea hc hm l ?_
  refine PySem.W.callWith_K (first := [.ref a]) (h₀ := X.base) I.ok.mod.kin hm.kp (thn (ha.run pos pins s1 σ H1 _ I1 q) fun us s2 ⟨vs, H2, I2, r, q2⟩ => ⟨I2.kIn, ?_⟩) hst hpl
  exact run_fnS (us := .ref a :: us) (vs := .ref a :: vs) F (hr.mono hk) b (passAt tk σ) I2 (.cons rfl r) q2
/-- where it raises nothing -/
theorem pe_mtN {pl : Sem Bool} (c : MetX X.prog X.w X.K X.mg X.base k C m sp) (hr : Room j X.A) (hk : k ≤ j) (he : PE X o ta) (ha : PA X (e :: es) t)
    (hst : starEach (e :: es) X.env = (false, eval e X.env) :: starEach es X.env := by rfl) (hpl : (backTo pos (starEach es X.env)).any (·.1) = false := by rfl)
    (ht : eval (.Call (.Attribute o m apos) (e :: es) [] pos) X.env = (do
      let ov ← eval o X.env
      standAt apos.atName
      let (f, first) ← holding [ov] (getMethod ov m pl)
      callWith pos f first (backTo pos (starEach (e :: es) X.env)) (backToKw pos (keywordEach [] X.env))) := by rfl) :
    PE X (.Call (.Attribute o m apos) (e :: es) [] pos) (tMeth C m sp [] E0 ta t) := by
  obtain ⟨f, fd, ps, hc, hm, F, b⟩ := c.ex
  exact pe_meth (pl := pl) he hc hm F (hr.mono hk) b .nil passL ha hst hpl ht
end
end Gx
set_option maxHeartbeats 1000000
namespace K18
open PySem PySem.Spec PyProof.Rows L2 Gd
open C8 (clsBody Met pe_mt pe_mt0)
def topS (i : Nat) : Stmt := PySem.Challenge.pw_makeskept_k18_whole_tours_and_trees.main.body.getD i (.Pass ⟨0, 0, 0, 0⟩)
abbrev s__wall : Stmt := topS 0
abbrev s_is_whole : Stmt := topS 7
abbrev s__law_cell_at : Stmt := topS 20
abbrev s__law_box : Stmt := topS 21
abbrev s__law_take : Stmt := topS 22
abbrev s__law_stretch_right : Stmt := topS 23
abbrev s__law_pair_right : Stmt := topS 24
abbrev s__law_refused : Stmt := topS 25
abbrev s__law_both_right : Stmt := topS 26
abbrev s_law : Stmt := topS 27
abbrev s_NoMake___init__ : Stmt := (clsBody (topS 3)).getD 0 (.Pass ⟨0, 0, 0, 0⟩)
abbrev s_NoMark___init__ : Stmt := (clsBody (topS 4)).getD 0 (.Pass ⟨0, 0, 0, 0⟩)
abbrev s_TooMany___init__ : Stmt := (clsBody (topS 5)).getD 0 (.Pass ⟨0, 0, 0, 0⟩)
abbrev s_Order___init__ : Stmt := (clsBody (topS 11)).getD 0 (.Pass ⟨0, 0, 0, 0⟩)
abbrev s_Order_behind : Stmt := (clsBody (topS 11)).getD 1 (.Pass ⟨0, 0, 0, 0⟩)
abbrev s_Order_drop : Stmt := (clsBody (topS 11)).getD 2 (.Pass ⟨0, 0, 0, 0⟩)
abbrev s_Order_many : Stmt := (clsBody (topS 11)).getD 3 (.Pass ⟨0, 0, 0, 0⟩)
abbrev s_Order_marks : Stmt := (clsBody (topS 11)).getD 4 (.Pass ⟨0, 0, 0, 0⟩)
abbrev s_Order_ahead : Stmt := (clsBody (topS 11)).getD 5 (.Pass ⟨0, 0, 0, 0⟩)
abbrev s_Order_label : Stmt := (clsBody (topS 11)).getD 6 (.Pass ⟨0, 0, 0, 0⟩)
abbrev s_Order_anew : Stmt := (clsBody (topS 11)).getD 7 (.Pass ⟨0, 0, 0, 0⟩)
abbrev s_Order_copied : Stmt := (clsBody (topS 11)).getD 8 (.Pass ⟨0, 0, 0, 0⟩)
abbrev s_Order__label_at : Stmt := (clsBody (topS 11)).getD 9 (.Pass ⟨0, 0, 0, 0⟩)
abbrev s_Order__label_anew : Stmt := (clsBody (topS 11)).getD 10 (.Pass ⟨0, 0, 0, 0⟩)
abbrev s_Order__need_mark : Stmt := (clsBody (topS 11)).getD 11 (.Pass ⟨0, 0, 0, 0⟩)
abbrev s_MakeTree___init__ : Stmt := (clsBody (topS 14)).getD 0 (.Pass ⟨0, 0, 0, 0⟩)
abbrev s_MakeTree_many : Stmt := (clsBody (topS 14)).getD 1 (.Pass ⟨0, 0, 0, 0⟩)
abbrev s_MakeTree_grow : Stmt := (clsBody (topS 14)).getD 2 (.Pass ⟨0, 0, 0, 0⟩)
abbrev s_MakeTree_own : Stmt := (clsBody (topS 14)).getD 3 (.Pass ⟨0, 0, 0, 0⟩)
abbrev s_MakeTree_depth : Stmt := (clsBody (topS 14)).getD 4 (.Pass ⟨0, 0, 0, 0⟩)
abbrev s_MakeTree_on : Stmt := (clsBody (topS 14)).getD 5 (.Pass ⟨0, 0, 0, 0⟩)
abbrev s_MakeTree_line : Stmt := (clsBody (topS 14)).getD 6 (.Pass ⟨0, 0, 0, 0⟩)
abbrev s_MakeTree_up : Stmt := (clsBody (topS 14)).getD 7 (.Pass ⟨0, 0, 0, 0⟩)
abbrev s_MakeTree_nearest : Stmt := (clsBody (topS 14)).getD 8 (.Pass ⟨0, 0, 0, 0⟩)
abbrev s_MakeTree_way : Stmt := (clsBody (topS 14)).getD 9 (.Pass ⟨0, 0, 0, 0⟩)
abbrev s_MakeTree_apart : Stmt := (clsBody (topS 14)).getD 10 (.Pass ⟨0, 0, 0, 0⟩)
abbrev s_MakeTree_copied : Stmt := (clsBody (topS 14)).getD 11 (.Pass ⟨0, 0, 0, 0⟩)
abbrev s_MakeTree__grown_alike : Stmt := (clsBody (topS 14)).getD 12 (.Pass ⟨0, 0, 0, 0⟩)
abbrev s_MakeTree__need_make : Stmt := (clsBody (topS 14)).getD 13 (.Pass ⟨0, 0, 0, 0⟩)
abbrev s_MakeTree__need_steps : Stmt := (clsBody (topS 14)).getD 14 (.Pass ⟨0, 0, 0, 0⟩)
abbrev s_Tour___init__ : Stmt := (clsBody (topS 16)).getD 0 (.Pass ⟨0, 0, 0, 0⟩)
abbrev s_Tour_many : Stmt := (clsBody (topS 16)).getD 1 (.Pass ⟨0, 0, 0, 0⟩)
abbrev s_Tour_grow : Stmt := (clsBody (topS 16)).getD 2 (.Pass ⟨0, 0, 0, 0⟩)
abbrev s_Tour_marks_of : Stmt := (clsBody (topS 16)).getD 3 (.Pass ⟨0, 0, 0, 0⟩)
abbrev s_Tour_order : Stmt := (clsBody (topS 16)).getD 4 (.Pass ⟨0, 0, 0, 0⟩)
abbrev s_Tour_coming : Stmt := (clsBody (topS 16)).getD 5 (.Pass ⟨0, 0, 0, 0⟩)
abbrev s_Tour_leaving : Stmt := (clsBody (topS 16)).getD 6 (.Pass ⟨0, 0, 0, 0⟩)
abbrev s_Tour_within : Stmt := (clsBody (topS 16)).getD 7 (.Pass ⟨0, 0, 0, 0⟩)
abbrev s_Tour_beneath : Stmt := (clsBody (topS 16)).getD 8 (.Pass ⟨0, 0, 0, 0⟩)
abbrev s_Tour_copied : Stmt := (clsBody (topS 16)).getD 9 (.Pass ⟨0, 0, 0, 0⟩)
abbrev s_Tour__makes_by : Stmt := (clsBody (topS 16)).getD 10 (.Pass ⟨0, 0, 0, 0⟩)
abbrev s_Tour__is_beneath : Stmt := (clsBody (topS 16)).getD 11 (.Pass ⟨0, 0, 0, 0⟩)
abbrev s_Tour__need_make : Stmt := (clsBody (topS 16)).getD 12 (.Pass ⟨0, 0, 0, 0⟩)
abbrev s_LeapTree___init__ : Stmt := (clsBody (topS 18)).getD 0 (.Pass ⟨0, 0, 0, 0⟩)
abbrev s_LeapTree_grow : Stmt := (clsBody (topS 18)).getD 1 (.Pass ⟨0, 0, 0, 0⟩)
abbrev s_LeapTree_leaps : Stmt := (clsBody (topS 18)).getD 2 (.Pass ⟨0, 0, 0, 0⟩)
abbrev s_LeapTree_leap_way : Stmt := (clsBody (topS 18)).getD 3 (.Pass ⟨0, 0, 0, 0⟩)
abbrev s_LeapTree_copied : Stmt := (clsBody (topS 18)).getD 4 (.Pass ⟨0, 0, 0, 0⟩)
abbrev s_LeapTree__leaps_through : Stmt := (clsBody (topS 18)).getD 5 (.Pass ⟨0, 0, 0, 0⟩)
theorem sc_Order___init__ : FnScope ["self"] ["self"] (defScope s_Order___init__) := ⟨rfl, rfl, rfl, by decide +kernel, rfl, by decide +kernel, by decide +kernel⟩
theorem sc_Order_behind : FnScope ["self", "mark", "at", "number"] ["self", "mark"] (defScope s_Order_behind) := ⟨rfl, rfl, rfl, by decide +kernel, rfl, by decide +kernel, by decide +kernel⟩
theorem sc_Order_drop : FnScope ["self", "mark"] ["self", "mark"] (defScope s_Order_drop) := ⟨rfl, rfl, rfl, by decide +kernel, rfl, by decide +kernel, by decide +kernel⟩
theorem sc_Order_many : FnScope ["self"] ["self"] (defScope s_Order_many) := ⟨rfl, rfl, rfl, by decide +kernel, rfl, by decide +kernel, by decide +kernel⟩
theorem sc_Order_marks : FnScope ["self"] ["self"] (defScope s_Order_marks) := ⟨rfl, rfl, rfl, by decide +kernel, rfl, by decide +kernel, by decide +kernel⟩
theorem sc_Order_ahead : FnScope ["self", "one", "other"] ["self", "one", "other"] (defScope s_Order_ahead) := ⟨rfl, rfl, rfl, by decide +kernel, rfl, by decide +kernel, by decide +kernel⟩
theorem sc_Order_label : FnScope ["self", "mark"] ["self", "mark"] (defScope s_Order_label) := ⟨rfl, rfl, rfl, by decide +kernel, rfl, by decide +kernel, by decide +kernel⟩
theorem sc_Order_anew : FnScope ["self"] ["self"] (defScope s_Order_anew) := ⟨rfl, rfl, rfl, by decide +kernel, rfl, by decide +kernel, by decide +kernel⟩
theorem sc_Order_copied : FnScope ["self", "other"] ["self"] (defScope s_Order_copied) := ⟨rfl, rfl, rfl, by decide +kernel, rfl, by decide +kernel, by decide +kernel⟩
theorem sc_Order__label_at : FnScope ["self", "at"] ["self", "at"] (defScope s_Order__label_at) := ⟨rfl, rfl, rfl, by decide +kernel, rfl, by decide +kernel, by decide +kernel⟩
theorem sc_Order__label_anew : FnScope ["self", "step", "at", "mark"] ["self"] (defScope s_Order__label_anew) := ⟨rfl, rfl, rfl, by decide +kernel, rfl, by decide +kernel, by decide +kernel⟩
theorem sc_Order__need_mark : FnScope ["self", "mark"] ["self", "mark"] (defScope s_Order__need_mark) := ⟨rfl, rfl, rfl, by decide +kernel, rfl, by decide +kernel, by decide +kernel⟩
theorem sc_MakeTree___init__ : FnScope ["self"] ["self"] (defScope s_MakeTree___init__) := ⟨rfl, rfl, rfl, by decide +kernel, rfl, by decide +kernel, by decide +kernel⟩
theorem sc_MakeTree_many : FnScope ["self"] ["self"] (defScope s_MakeTree_many) := ⟨rfl, rfl, rfl, by decide +kernel, rfl, by decide +kernel, by decide +kernel⟩
theorem sc_MakeTree_grow : FnScope ["self", "make", "number"] ["self", "make"] (defScope s_MakeTree_grow) := ⟨rfl, rfl, rfl, by decide +kernel, rfl, by decide +kernel, by decide +kernel⟩
theorem sc_MakeTree_own : FnScope ["self", "make"] ["self", "make"] (defScope s_MakeTree_own) := ⟨rfl, rfl, rfl, by decide +kernel, rfl, by decide +kernel, by decide +kernel⟩
theorem sc_MakeTree_depth : FnScope ["self", "make"] ["self", "make"] (defScope s_MakeTree_depth) := ⟨rfl, rfl, rfl, by decide +kernel, rfl, by decide +kernel, by decide +kernel⟩
theorem sc_MakeTree_on : FnScope ["self", "make"] ["self", "make"] (defScope s_MakeTree_on) := ⟨rfl, rfl, rfl, by decide +kernel, rfl, by decide +kernel, by decide +kernel⟩
theorem sc_MakeTree_line : FnScope ["self", "make", "line"] ["self", "make"] (defScope s_MakeTree_line) := ⟨rfl, rfl, rfl, by decide +kernel, rfl, by decide +kernel, by decide +kernel⟩
theorem sc_MakeTree_up : FnScope ["self", "make", "steps"] ["self", "make", "steps"] (defScope s_MakeTree_up) := ⟨rfl, rfl, rfl, by decide +kernel, rfl, by decide +kernel, by decide +kernel⟩
theorem sc_MakeTree_nearest : FnScope ["self", "one", "other"] ["self", "one", "other"] (defScope s_MakeTree_nearest) := ⟨rfl, rfl, rfl, by decide +kernel, rfl, by decide +kernel, by decide +kernel⟩
theorem sc_MakeTree_way : FnScope ["self", "one", "other"] ["self", "one", "other"] (defScope s_MakeTree_way) := ⟨rfl, rfl, rfl, by decide +kernel, rfl, by decide +kernel, by decide +kernel⟩
theorem sc_MakeTree_apart : FnScope ["self", "one", "other"] ["self", "one", "other"] (defScope s_MakeTree_apart) := ⟨rfl, rfl, rfl, by decide +kernel, rfl, by decide +kernel, by decide +kernel⟩
theorem sc_MakeTree_copied : FnScope ["self"] ["self"] (defScope s_MakeTree_copied) := ⟨rfl, rfl, rfl, by decide +kernel, rfl, by decide +kernel, by decide +kernel⟩
theorem sc_MakeTree__grown_alike : FnScope ["self", "other", "own"] ["self", "other"] (defScope s_MakeTree__grown_alike) := ⟨rfl, rfl, rfl, by decide +kernel, rfl, by decide +kernel, by decide +kernel⟩
theorem sc_MakeTree__need_make : FnScope ["self", "make"] ["self", "make"] (defScope s_MakeTree__need_make) := ⟨rfl, rfl, rfl, by decide +kernel, rfl, by decide +kernel, by decide +kernel⟩
theorem sc_MakeTree__need_steps : FnScope ["self", "make", "steps"] ["self", "make", "steps"] (defScope s_MakeTree__need_steps) := ⟨rfl, rfl, rfl, by decide +kernel, rfl, by decide +kernel, by decide +kernel⟩
theorem sc_Tour___init__ : FnScope ["self"] ["self"] (defScope s_Tour___init__) := ⟨rfl, rfl, rfl, by decide +kernel, rfl, by decide +kernel, by decide +kernel⟩
theorem sc_Tour_many : FnScope ["self"] ["self"] (defScope s_Tour_many) := ⟨rfl, rfl, rfl, by decide +kernel, rfl, by decide +kernel, by decide +kernel⟩
theorem sc_Tour_grow : FnScope ["self", "make", "number", "coming", "leaving"] ["self", "make"] (defScope s_Tour_grow) := ⟨rfl, rfl, rfl, by decide +kernel, rfl, by decide +kernel, by decide +kernel⟩
theorem sc_Tour_marks_of : FnScope ["self", "make"] ["self", "make"] (defScope s_Tour_marks_of) := ⟨rfl, rfl, rfl, by decide +kernel, rfl, by decide +kernel, by decide +kernel⟩
theorem sc_Tour_order : FnScope ["self"] ["self"] (defScope s_Tour_order) := ⟨rfl, rfl, rfl, by decide +kernel, rfl, by decide +kernel, by decide +kernel⟩
theorem sc_Tour_coming : FnScope ["self", "make", "marks"] ["self"] (defScope s_Tour_coming) := ⟨rfl, rfl, rfl, by decide +kernel, rfl, by decide +kernel, by decide +kernel⟩
theorem sc_Tour_leaving : FnScope ["self", "make", "marks"] ["self"] (defScope s_Tour_leaving) := ⟨rfl, rfl, rfl, by decide +kernel, rfl, by decide +kernel, by decide +kernel⟩
theorem sc_Tour_within : FnScope ["self", "one", "other"] ["self", "one", "other"] (defScope s_Tour_within) := ⟨rfl, rfl, rfl, by decide +kernel, rfl, by decide +kernel, by decide +kernel⟩
theorem sc_Tour_beneath : FnScope ["self", "make", "other"] ["self", "make"] (defScope s_Tour_beneath) := ⟨rfl, rfl, rfl, by decide +kernel, rfl, by decide +kernel, by decide +kernel⟩
theorem sc_Tour_copied : FnScope ["self", "other"] ["self"] (defScope s_Tour_copied) := ⟨rfl, rfl, rfl, by decide +kernel, rfl, by decide +kernel, by decide +kernel⟩
theorem sc_Tour__makes_by : FnScope ["self", "makes", "mark"] ["self", "makes"] (defScope s_Tour__makes_by) := ⟨rfl, rfl, rfl, by decide +kernel, rfl, by decide +kernel, by decide +kernel⟩
theorem sc_Tour__is_beneath : FnScope ["self", "one", "other", "coming"] ["self", "one", "other"] (defScope s_Tour__is_beneath) := ⟨rfl, rfl, rfl, by decide +kernel, rfl, by decide +kernel, by decide +kernel⟩
theorem sc_Tour__need_make : FnScope ["self", "make"] ["self", "make"] (defScope s_Tour__need_make) := ⟨rfl, rfl, rfl, by decide +kernel, rfl, by decide +kernel, by decide +kernel⟩
theorem sc_LeapTree_leaps : FnScope ["self", "make"] ["self", "make"] (defScope s_LeapTree_leaps) := ⟨rfl, rfl, rfl, by decide +kernel, rfl, by decide +kernel, by decide +kernel⟩
theorem sc_LeapTree_leap_way : FnScope ["self", "make", "steps"] ["self", "make", "steps"] (defScope s_LeapTree_leap_way) := ⟨rfl, rfl, rfl, by decide +kernel, rfl, by decide +kernel, by decide +kernel⟩
theorem sc_LeapTree_copied : FnScope ["self"] ["self"] (defScope s_LeapTree_copied) := ⟨rfl, rfl, rfl, by decide +kernel, rfl, by decide +kernel, by decide +kernel⟩
theorem sc_LeapTree__leaps_through : FnScope ["self", "own", "leaps"] ["self", "own"] (defScope s_LeapTree__leaps_through) := ⟨rfl, rfl, rfl, by decide +kernel, rfl, by decide +kernel, by decide +kernel⟩
theorem sc__wall : FnScope ["k"] ["k"] (defScope s__wall) := ⟨rfl, rfl, rfl, by decide +kernel, rfl, by decide +kernel, by decide +kernel⟩
theorem sc_is_whole : FnScope ["thing", "low", "high"] ["thing", "low", "high"] (defScope s_is_whole) := ⟨rfl, rfl, rfl, by decide +kernel, rfl, by decide +kernel, by decide +kernel⟩
theorem sc__law_cell_at : FnScope ["_law_script", "_law_k"] ["_law_script", "_law_k"] (defScope s__law_cell_at) := ⟨rfl, rfl, rfl, by decide +kernel, rfl, by decide +kernel, by decide +kernel⟩
theorem sc__law_box : FnScope ["_law_cell"] ["_law_cell"] (defScope s__law_box) := ⟨rfl, rfl, rfl, by decide +kernel, rfl, by decide +kernel, by decide +kernel⟩
theorem sc__law_take : FnScope ["_law_box_here", "_law_many", "_law_digit", "_law_number"] ["_law_box_here", "_law_many"] (defScope s__law_take) := ⟨rfl, rfl, rfl, by decide +kernel, rfl, by decide +kernel, by decide +kernel⟩
theorem sc__law_stretch_right : FnScope ["_law_tour", "_law_make", "_law_beneath", "_law_coming", "_law_leaving", "_law_at", "_law_end"] ["_law_tour", "_law_make"] (defScope s__law_stretch_right) := ⟨rfl, rfl, rfl, by decide +kernel, rfl, by decide +kernel, by decide +kernel⟩
theorem sc__law_pair_right : FnScope ["_law_tour", "_law_tree", "_law_one", "_law_other", "_law_both", "_law_deepest", "_law_comes", "_law_leaves", "_law_begins", "_law_ends", "_law_order", "_law_apart", "_law_make"] ["_law_tour", "_law_tree", "_law_one", "_law_other"] (defScope s__law_pair_right) := ⟨rfl, rfl, rfl, by decide +kernel, rfl, by decide +kernel, by decide +kernel⟩
theorem sc__law_refused : FnScope ["_law_thing", "_law_make", "_law_found", "e"] ["_law_thing", "_law_make"] (defScope s__law_refused) := ⟨rfl, rfl, rfl, by decide +kernel, rfl, by decide +kernel, by decide +kernel⟩
theorem sc__law_both_right : FnScope ["_law_box_here", "_law_tour", "_law_tree", "_law_many", "_law_turn", "_law_one", "_law_other", "_law_bad"] ["_law_box_here", "_law_tour", "_law_tree"] (defScope s__law_both_right) := ⟨rfl, rfl, rfl, by decide +kernel, rfl, by decide +kernel, by decide +kernel⟩
theorem sc_law : FnScope ["_law_script", "_law_tours", "_law_trees", "_law_k", "_law_box_here", "_law_at", "_law_way", "_law_copies", "_law_many", "_law_make", "_law_one", "_law_tour", "_law_tree", "_law_beneath"] ["_law_script"] (defScope s_law) := ⟨rfl, rfl, rfl, by decide +kernel, rfl, by decide +kernel, by decide +kernel⟩
structure Txt (K : PySem.W.Frag) (mg : Str → Option Value) : Prop where
  b_len : mg "len" = none
  b_max : mg "max" = none
  b_min : mg "min" = none
  b_range : mg "range" = none
  b_repr : mg "repr" = none
  b_isinstance : mg "isinstance" = none
  b_enumerate : mg "enumerate" = none
  b_sorted : mg "sorted" = none
  b_zip : mg "zip" = none
  t_int : mg "int" = none
  t_bool : mg "bool" = none
  t_list : mg "list" = none
  t_dict : mg "dict" = none
  g_MOST_MARKS : GInt mg "MOST_MARKS" 200
  g_LABELS : GInt mg "LABELS" 1024
  g_MOST_MAKES : GInt mg "MOST_MAKES" 64
/-- the class of orders -/
structure OrdC (K : PySem.W.Frag) (C : Addr) : Prop where
  cl : Cls K C
  n_marks : NoAttr K C "_marks"
  n_labels : NoAttr K C "_labels"
  n_given : NoAttr K C "_given"
  n_times : NoAttr K C "_times"
def fields : List Str := ["_marks", "_labels", "_given", "_times"]
def num (j : Nat) : V := .int (j : Nat)
theorem putF_len {f : Str} {v x : V} : ∀ {fs : List (Str × V)}, fs.lookup f = some x → (putF f v fs).length = fs.length
  | [], h => by cases h
  | (g, y) :: r, h => by
    unfold putF
    by_cases e : g = f
    · rw [if_pos e]
      rfl
    · rw [if_neg e]
      have e2 : (f == g) = false := by simpa using fun z => e z.symm
      rw [List.lookup_cons, e2] at h
      rw [List.length_cons, List.length_cons, putF_len h]
/-! lists of marks and their labels -/
def inl {α : Type} (l : List α) (k : Nat) (x : α) : List α := l.take k ++ [x] ++ l.drop k
theorem inl_at {α : Type} {l : List α} {k : Nat} {x : α} (hk : k ≤ l.length) (j : Nat) : (inl l k x)[j]? = if j < k then l[j]? else if j = k then some x else l[j - 1]? := by
  unfold inl
  have h1 : (l.take k).length = k := by rw [List.length_take]; omega
  by_cases e : j < k
  · rw [if_pos e, List.append_assoc, List.getElem?_append_left (by omega), List.getElem?_take, if_pos e]
  · rw [if_neg e]
    by_cases e2 : j = k
    · rw [if_pos e2, List.append_assoc, List.getElem?_append_right (by omega), h1, e2, Nat.sub_self]
      rfl
    · rw [if_neg e2, List.getElem?_append_right (by rw [List.length_append, h1]; show k + 1 ≤ j; omega), List.length_append, h1, List.getElem?_drop]
      congr 1
      show k + (j - (k + 1)) = j - 1
      omega
theorem inl_len {α : Type} {l : List α} {k : Nat} {x : α} (hk : k ≤ l.length) : (inl l k x).length = l.length + 1 := by
  unfold inl
  rw [List.length_append, List.length_append, List.length_take, List.length_drop]
  show min k l.length + 1 + _ = _
  omega
theorem inl_map {α β : Type} (f : α → β) (l : List α) (k : Nat) (x : α) : (inl l k x).map f = inl (l.map f) k (f x) := by
  unfold inl
  rw [List.map_append, List.map_append, List.map_take, List.map_drop]
  rfl
def labAt (ls : List Nat) (i : Nat) : Nat := ls.getD i 1024
theorem labAt_in {ls : List Nat} {i l : Nat} (h : ls[i]? = some l) : labAt ls i = l := by
  unfold labAt
  rw [List.getD_eq_getElem?_getD, h]
  rfl
theorem labAt_end {ls : List Nat} {i : Nat} (h : ls.length ≤ i) : labAt ls i = 1024 := by
  unfold labAt
  rw [List.getD_eq_getElem?_getD, List.getElem?_eq_none h]
  rfl
def anewL (n : Nat) : List Nat := (List.range n).map fun k => k * (1024 / n)
theorem anew_len (n : Nat) : (anewL n).length = n := by
  unfold anewL
  rw [List.length_map, List.length_range]
theorem anew_at {n i : Nat} (h : i < n) : (anewL n)[i]? = some (i * (1024 / n)) := by
  unfold anewL
  rw [List.getElem?_map, List.getElem?_range h]
  rfl
/-- an order as it must be -/
structure Ok (ms ls : List Nat) (gv : Nat) : Prop where
  len : ls.length = ms.length
  pos : 0 < ms.length
  few : ms.length ≤ 200
  nd : ∀ (i j m : Nat), ms[i]? = some m → ms[j]? = some m → i = j
  lt : ∀ (i m : Nat), ms[i]? = some m → m < gv
  inc : ∀ (i j a b : Nat), i < j → ls[i]? = some a → ls[j]? = some b → a < b
  top : ∀ (i a : Nat), ls[i]? = some a → a < 1024
def gap (ls : List Nat) (i : Nat) : Prop := labAt ls i + 2 ≤ labAt ls (i + 1)
instance (ls : List Nat) (i : Nat) : Decidable (gap ls i) := inferInstanceAs (Decidable (_ ≤ _))
/-- the labels that a mark finds that is put behind the i-th -/
def readyL (ls : List Nat) (i : Nat) : List Nat := if gap ls i then ls else anewL ls.length
theorem ready_len (ls : List Nat) (i : Nat) : (readyL ls i).length = ls.length := by
  unfold readyL
  split
  · rfl
  · exact anew_len _
def midL (ls : List Nat) (i : Nat) : Nat := (labAt (readyL ls i) i + labAt (readyL ls i) (i + 1)) / 2
theorem step_pos {n : Nat} (h : n ≤ 200) (h0 : 0 < n) : 5 ≤ 1024 / n := by
  rw [Nat.le_div_iff_mul_le h0]
  omega
theorem Ok.anew {ms ls : List Nat} {gv : Nat} (o : Ok ms ls gv) : Ok ms (anewL ms.length) gv := by
  have hs := step_pos o.few o.pos
  have ht : ms.length * (1024 / ms.length) ≤ 1024 := Nat.mul_div_le 1024 ms.length
  refine ⟨anew_len _, o.pos, o.few, o.nd, o.lt, fun i j a b hij ha hb => ?_, fun i a ha => ?_⟩
  · have hj : j < ms.length := by
      by_cases z : j < ms.length
      · exact z
      · rw [List.getElem?_eq_none (by rw [anew_len]; omega)] at hb
        cases hb
    rw [anew_at (by omega)] at ha
    rw [anew_at hj] at hb
    have ea := Option.some.inj ha
    have eb := Option.some.inj hb
    rw [← ea, ← eb]
    exact Nat.mul_lt_mul_of_pos_right hij (by omega)
  · have hi : i < ms.length := by
      by_cases z : i < ms.length
      · exact z
      · rw [List.getElem?_eq_none (by rw [anew_len]; omega)] at ha
        cases ha
    rw [anew_at hi] at ha
    have ea := Option.some.inj ha
    rw [← ea]
    refine Nat.lt_of_lt_of_le (Nat.mul_lt_mul_of_pos_right hi (by omega)) ht
theorem Ok.gap_ready {ms ls : List Nat} {gv i : Nat} (o : Ok ms ls gv) (hi : i < ms.length) : gap (readyL ls i) i := by
  unfold readyL
  split
  · assumption
  · unfold gap
    have hs := step_pos o.few o.pos
    rw [o.len]
    by_cases e : i + 1 < ms.length
    · rw [labAt_in (anew_at hi), labAt_in (anew_at e), Nat.succ_mul]
      omega
    · have e2 : i + 1 = ms.length := by omega
      rw [labAt_in (anew_at hi), labAt_end (by rw [anew_len]; omega)]
      have ht : ms.length * (1024 / ms.length) ≤ 1024 := Nat.mul_div_le 1024 ms.length
      rw [← e2, Nat.succ_mul] at ht
      rw [← e2]
      rw [← e2] at hs
      omega
theorem Ok.ready {ms ls : List Nat} {gv i : Nat} (o : Ok ms ls gv) : Ok ms (readyL ls i) gv := by
  unfold readyL
  split
  · exact o
  · rw [o.len]
    exact o.anew
theorem Ok.put {ms ls : List Nat} {gv i : Nat} (o : Ok ms ls gv) (hi : i < ms.length) (few : ms.length < 200) : Ok (inl ms (i + 1) gv) (inl (readyL ls i) (i + 1) (midL ls i)) (gv + 1) := by
  have r := o.ready (i := i)
  have g := o.gap_ready hi
  have hl : (readyL ls i).length = ms.length := r.len
  unfold gap at g
  have hm : labAt (readyL ls i) i < midL ls i ∧ midL ls i < labAt (readyL ls i) (i + 1) := by
    unfold midL
    omega
  have hlo : ∀ (j a : Nat), j < i + 1 → (readyL ls i)[j]? = some a → a < midL ls i := fun j a hj ha => by
    by_cases e : j = i
    · rw [e] at ha
      rw [labAt_in ha] at hm
      exact hm.1
    · obtain ⟨b, hb⟩ : ∃ b, (readyL ls i)[i]? = some b := ⟨_, List.getElem?_eq_getElem (by omega)⟩
      have := r.inc j i a b (by omega) ha hb
      rw [labAt_in hb] at hm
      omega
  have hhi : ∀ (j a : Nat), i + 1 ≤ j → (readyL ls i)[j]? = some a → midL ls i < a := fun j a hj ha => by
    by_cases e : j = i + 1
    · rw [e] at ha
      rw [labAt_in ha] at hm
      exact hm.2
    · obtain ⟨b, hb⟩ : ∃ b, (readyL ls i)[i + 1]? = some b := ⟨_, List.getElem?_eq_getElem (by
        by_cases z : j < (readyL ls i).length
        · omega
        · rw [List.getElem?_eq_none (by omega)] at ha
          cases ha)⟩
      have := r.inc (i + 1) j b a (by omega) hb ha
      rw [labAt_in hb] at hm
      omega
  refine ⟨by rw [inl_len (by omega), inl_len (by omega), hl], by rw [inl_len (by omega)]; omega, by rw [inl_len (by omega)]; omega, fun j k m h1 h2 => ?_, fun j m h => ?_, fun j k a b hjk ha hb => ?_, fun j a ha => ?_⟩
  · rw [inl_at (by omega)] at h1 h2
    by_cases e1 : j < i + 1
    · rw [if_pos e1] at h1
      have l1 := o.lt _ _ h1
      by_cases e2 : k < i + 1
      · rw [if_pos e2] at h2
        exact o.nd _ _ _ h1 h2
      · rw [if_neg e2] at h2
        by_cases e3 : k = i + 1
        · rw [if_pos e3] at h2
          have := Option.some.inj h2
          omega
        · rw [if_neg e3] at h2
          have := o.nd _ _ _ h1 h2
          omega
    · rw [if_neg e1] at h1
      by_cases e4 : j = i + 1
      · rw [if_pos e4] at h1
        have e5 := Option.some.inj h1
        by_cases e2 : k < i + 1
        · rw [if_pos e2] at h2
          have := o.lt _ _ h2
          omega
        · rw [if_neg e2] at h2
          by_cases e3 : k = i + 1
          · omega
          · rw [if_neg e3] at h2
            have := o.lt _ _ h2
            omega
      · rw [if_neg e4] at h1
        have l1 := o.lt _ _ h1
        by_cases e2 : k < i + 1
        · rw [if_pos e2] at h2
          have := o.nd _ _ _ h1 h2
          omega
        · rw [if_neg e2] at h2
          by_cases e3 : k = i + 1
          · rw [if_pos e3] at h2
            have := Option.some.inj h2
            omega
          · rw [if_neg e3] at h2
            have := o.nd _ _ _ h1 h2
            omega
  · rw [inl_at (by omega)] at h
    split at h
    · have := o.lt _ _ h
      omega
    · split at h
      · have := Option.some.inj h
        omega
      · have := o.lt _ _ h
        omega
  · rw [inl_at (by omega)] at ha hb
    by_cases e1 : j < i + 1
    · rw [if_pos e1] at ha
      by_cases e2 : k < i + 1
      · rw [if_pos e2] at hb
        exact r.inc _ _ _ _ hjk ha hb
      · rw [if_neg e2] at hb
        by_cases e3 : k = i + 1
        · rw [if_pos e3] at hb
          have := Option.some.inj hb
          have := hlo _ _ e1 ha
          omega
        · rw [if_neg e3] at hb
          exact r.inc _ _ _ _ (by omega) ha hb
    · rw [if_neg e1] at ha
      rw [if_neg (by omega), if_neg (by omega)] at hb
      by_cases e4 : j = i + 1
      · rw [if_pos e4] at ha
        have := Option.some.inj ha
        have := hhi _ _ (by omega) hb
        omega
      · rw [if_neg e4] at ha
        exact r.inc _ _ _ _ (by omega) ha hb
  · rw [inl_at (by omega)] at ha
    have ht : midL ls i < 1024 := by
      by_cases z : i + 1 < (readyL ls i).length
      · have := r.top (i + 1) _ (List.getElem?_eq_getElem z)
        have e2 := labAt_in (List.getElem?_eq_getElem z)
        omega
      · rw [labAt_end (by omega : (readyL ls i).length ≤ i + 1)] at hm
        exact hm.2
    split at ha
    · exact r.top _ _ ha
    · split at ha
      · have := Option.some.inj ha
        omega
      · exact r.top _ _ ha
theorem er_at {α : Type} (l : List α) (k j : Nat) : (l.eraseIdx k)[j]? = if j < k then l[j]? else l[j + 1]? := by
  rw [List.getElem?_eraseIdx]
theorem er_len {α : Type} {l : List α} {k : Nat} (h : k < l.length) : (l.eraseIdx k).length = l.length - 1 := List.length_eraseIdx_of_lt h
theorem Ok.drop {ms ls : List Nat} {gv i : Nat} (o : Ok ms ls gv) (hi : i < ms.length) (h2 : 1 < ms.length) : Ok (ms.eraseIdx i) (ls.eraseIdx i) gv := by
  have hl := o.len
  refine ⟨by rw [er_len hi, er_len (by omega), hl], by rw [er_len hi]; omega, by rw [er_len hi]; have := o.few; omega, fun j k m h1 h2 => ?_, fun j m h => ?_, fun j k a b hjk ha hb => ?_, fun j a ha => ?_⟩
  · rw [er_at] at h1 h2
    split at h1
    · split at h2
      · exact o.nd _ _ _ h1 h2
      · have := o.nd _ _ _ h1 h2
        omega
    · split at h2
      · have := o.nd _ _ _ h1 h2
        omega
      · have := o.nd _ _ _ h1 h2
        omega
  · rw [er_at] at h
    split at h
    · exact o.lt _ _ h
    · exact o.lt _ _ h
  · rw [er_at] at ha hb
    split at ha
    · split at hb
      · exact o.inc _ _ _ _ hjk ha hb
      · exact o.inc _ _ _ _ (by omega) ha hb
    · rw [if_neg (by omega)] at hb
      exact o.inc _ _ _ _ (by omega) ha hb
  · rw [er_at] at ha
    split at ha
    · exact o.top _ _ ha
    · exact o.top _ _ ha
end K18
set_option maxHeartbeats 1000000
namespace K18
open PySem PySem.Spec PyProof.Rows L2 Gd
open C8 (clsBody Met pe_mt pe_mt0)
/-- the dict of labels -/
structure DictL (kvs : List (Key × V)) (ms ls : List Nat) (gv : Nat) : Prop where
  len : kvs.length ≤ gv
  few : gv ≤ 1000
  at_ : ∀ (i m l : Nat), ms[i]? = some m → ls[i]? = some l → valV kvs (Sum.inl (m : Int)) = some (num l)
  no : ∀ k : Nat, (∀ i : Nat, ms[i]? ≠ some k) → valV kvs (Sum.inl (k : Int)) = none
/-- an order at o, N all that is its own -/
structure OrdA (N : Addr → Prop) (H : Hp) (o C : Addr) (ms ls : List Nat) (gv ts : Nat) : Prop where
  ex : ∃ (dx m d : Addr) (fs : List (Str × V)) (kvs : List (Key × V)), H o = some (.ins C dx fs) ∧ fs.lookup ("_marks" : Str) = some (.ref m) ∧ fs.lookup ("_labels" : Str) = some (.ref d) ∧ fs.lookup ("_given" : Str) = some (num gv) ∧ fs.lookup ("_times" : Str) = some (num ts) ∧
    (∀ f, f ∉ fields → fs.lookup f = none) ∧ H m = some (.lst (ms.map num)) ∧ H d = some (.dK kvs) ∧ DictL kvs ms ls gv ∧ fs.length ≤ 100 ∧ N o ∧ N m ∧ N d
  ok : Ok ms ls gv
theorem OrdA.kp {N : Addr → Prop} {H H' : Hp} {o C : Addr} {ms ls : List Nat} {gv ts : Nat} (r : OrdA N H o C ms ls gv ts) (k : ∀ c u, N c → H c = some u → H' c = some u) : OrdA N H' o C ms ls gv ts := by
  obtain ⟨dx, m, d, fs, kvs, e1, l1, l2, l3, l4, nl, e2, e3, dc, lf, No, Nm, Nd⟩ := r.ex
  exact ⟨⟨dx, m, d, fs, kvs, k _ _ No e1, l1, l2, l3, l4, nl, k _ _ Nm e2, k _ _ Nd e3, dc, lf, No, Nm, Nd⟩, r.ok⟩
theorem OrdA.mono {N N' : Addr → Prop} {H : Hp} {o C : Addr} {ms ls : List Nat} {gv ts : Nat} (r : OrdA N H o C ms ls gv ts) (k : ∀ c, N c → N' c) : OrdA N' H o C ms ls gv ts := by
  obtain ⟨dx, m, d, fs, kvs, e1, l1, l2, l3, l4, nl, e2, e3, dc, lf, No, Nm, Nd⟩ := r.ex
  exact ⟨⟨dx, m, d, fs, kvs, e1, l1, l2, l3, l4, nl, e2, e3, dc, lf, k _ No, k _ Nm, k _ Nd⟩, r.ok⟩
theorem OrdA.cut {N : Addr → Prop} {H : Hp} {o C : Addr} {ms ls : List Nat} {gv ts : Nat} (r : OrdA N H o C ms ls gv ts) : OrdA (fun c => N c ∧ H c ≠ none) H o C ms ls gv ts := by
  obtain ⟨dx, m, d, fs, kvs, e1, l1, l2, l3, l4, nl, e2, e3, dc, lf, No, Nm, Nd⟩ := r.ex
  exact ⟨⟨dx, m, d, fs, kvs, e1, l1, l2, l3, l4, nl, e2, e3, dc, lf, ⟨No, fun z => by rw [e1] at z; cases z⟩, ⟨Nm, fun z => by rw [e2] at z; cases z⟩, ⟨Nd, fun z => by rw [e3] at z; cases z⟩⟩, r.ok⟩
theorem OrdA.ins {N : Addr → Prop} {H : Hp} {o C : Addr} {ms ls : List Nat} {gv ts : Nat} (r : OrdA N H o C ms ls gv ts) : ∃ dx fs, H o = some (.ins C dx fs) ∧ (∀ f, f ∉ fields → fs.lookup f = none) := by
  obtain ⟨dx, m, d, fs, kvs, e1, l1, l2, l3, l4, nl, e2, e3, dc, lf, No, Nm, Nd⟩ := r.ex
  exact ⟨dx, fs, e1, nl⟩
section
variable {P : Program} {w : World} {K : PySem.W.Frag} {mg : Str → Option Value} {base : Heap} {C : Addr}
structure MAt (K : PySem.W.Frag) (C : Addr) (m qual : Str) (st : Stmt) (ps : List Str) : Prop where
  ex : ∃ (f : Addr) (fd : FuncData), Fun K m qual st f fd ∧ Meth K C m f ∧ Binds K fd ps []
theorem MAt.met {m qual : Str} {st : Stmt} {N ps : List Str} {k : Nat} {sp : Sp} (M : MAt K C m qual st ps) (cl : Cls K C) (S : FnScope N ps (defScope st))
    (ar : ∀ vs H Q E, sp vs H Q E → vs.length = ps.length)
    (bd : ∀ (f : Addr) (cdv : Value) (A : Around) (outer : List Env) (s : Shared) (H : Hp) (vs : List V) (Q : VK) (E : XK), Room k (A.deeper (envOfC qual (defScope st) s.heap.objs.size f cdv)) → sp vs H Q E →
      ∃ t, PSs (cxOf CX0 P w K mg base N qual (defScope st) f cdv A outer s H E).nox (defBody st) t ∧ t { nx := fun _ H' => Q .non H', rt := Q } (start N vs) H) : Met P w K mg base (k + 1) C m sp [] := by
  obtain ⟨f, fd, F, me, b⟩ := M.ex
  exact ⟨f, fd, ps, [], cl, me, F.ok S ar (bd f), b, .nil⟩
def spWhI : Sp := fun vs H Q _ => ∃ n lo hi : Int, vs = [.int n, .int lo, .int hi] ∧ lo ≤ n ∧ n ≤ hi ∧ Q (.bl true) H
theorem ok_whI (T : Txt K mg) (D : DefAt K mg "is_whole" s_is_whole ["thing", "low", "high"]) : C8.Cal P w K mg base 1 "is_whole" spWhI [] := by
  obtain ⟨f, fd, F, m, b⟩ := D.ex
  refine ⟨f, fd, _, [], F.ok sc_is_whole (fun vs H Q E h => ?_) (fun cdv A outer s H vs Q E hr h => ?_), m, F.kp, b, .nil⟩
  · obtain ⟨n, lo, hi, rfl, _⟩ := h
    rfl
  · obtain ⟨n, lo, hi, rfl, h1, h2, q⟩ := h
    refine ⟨_, (pss_one (ps_ret (pe_and (pe_callB call_isi (by rfl) T.b_isinstance boot_isinstance_ (pa_cons (pv 0) (pa_cons (pe_bltn (v := .ty "int") (by rfl) T.t_int boot_int_ rfl) pa_nil))) (pe_and (pe_not (pe_callB call_isi (by rfl) T.b_isinstance boot_isinstance_ (pa_cons (pv 0) (pa_cons (pe_bltn (v := .ty "bool") (by rfl) T.t_bool boot_bool_ rfl) pa_nil)))) (pe_one (pe_chain op_le op_le (pv 1) (pv 0) (pv 2))))))), ?_⟩
    have ty := tyD (K := K) (H := H) (D1.dp (Dp.int n))
    refine ⟨_, rfl, .int n, .ty "int", _, .type "int", _, rfl, .ty _, ty, kInt (.int n), _, rfl, ?_⟩
    refine iteT ?_
    refine ⟨_, rfl, _, .ty "bool", _, .type "bool", _, rfl, .ty _, ty, kBool _, _, rfl, _, rfl, ?_⟩
    refine iteT ?_
    refine ⟨_, rfl, _, rfl, _, _, rfl, rfl, _, rfl, ?_⟩
    rw [decide_eq_true h1]
    refine iteT ⟨_, rfl, _, _, rfl, rfl, ?_⟩
    show Q (.bl (decide (n ≤ hi))) H
    rw [decide_eq_true h2]
    exact q
def spMany (C : Addr) : Sp := fun vs H Q _ => ∃ (N : Addr → Prop) (o : Addr) (ms ls : List Nat) (gv ts : Nat), vs = [.ref o] ∧ OrdA N H o C ms ls gv ts ∧ Q (num ms.length) H
theorem ok_many (T : Txt K mg) (OC : OrdC K C) (M : MAt K C "many" "Order.many" s_Order_many ["self"]) : Met P w K mg base 1 C "many" (spMany C) [] := by
  refine M.met OC.cl sc_Order_many (fun vs H Q E h => ?_) (fun f cdv A outer s H vs Q E hr h => ?_)
  · obtain ⟨N, o, ms, ls, gv, ts, rfl, _⟩ := h
    rfl
  · obtain ⟨N, o, ms, ls, gv, ts, rfl, r, q⟩ := h
    obtain ⟨dx, m, d, fs, kvs, e1, l1, l2, l3, l4, nl, e2, e3, dc, lf, No, Nm, Nd⟩ := r.ex
    refine ⟨_, (pss_one (ps_ret (pe_callB call_len (by rfl) T.b_len boot_len_ (pa_cons (pe_fld (pv 0) rfl) pa_nil)))), ?_⟩
    refine ⟨_, rfl, o, C, dx, fs, .ref m, rfl, e1, OC.cl, OC.n_marks, l1, .ref m, (ms.map num).length, rfl, .inl ⟨_, SqL.of e2, rfl⟩, ?_⟩
    rw [List.length_map]
    exact q
def spNeed (C : Addr) : Sp := fun vs H Q _ => ∃ (N : Addr → Prop) (o : Addr) (ms ls : List Nat) (gv ts i k : Nat), vs = [.ref o, num k] ∧ OrdA N H o C ms ls gv ts ∧ ms[i]? = some k ∧ Q .non H
theorem lab_of {ms ls : List Nat} {gv i k : Nat} (o : Ok ms ls gv) (h : ms[i]? = some k) : ∃ l, ls[i]? = some l := by
  have hi : i < ms.length := by
    by_cases z : i < ms.length
    · exact z
    · rw [List.getElem?_eq_none (by omega)] at h
      cases h
  exact ⟨_, List.getElem?_eq_getElem (by rw [o.len]; exact hi)⟩
theorem ok_need (T : Txt K mg) (OC : OrdC K C) (c_is_whole : C8.Cal P w K mg base 1 "is_whole" spWhI []) (M : MAt K C "_need_mark" "Order._need_mark" s_Order__need_mark ["self", "mark"]) : Met P w K mg base 2 C "_need_mark" (spNeed C) [] := by
  refine M.met OC.cl sc_Order__need_mark (fun vs H Q E h => ?_) (fun f cdv A outer s H vs Q E hr h => ?_)
  · obtain ⟨N, o, ms, ls, gv, ts, i, k, rfl, _⟩ := h
    rfl
  · obtain ⟨N, o, ms, ls, gv, ts, i, k, rfl, r, hk, q⟩ := h
    obtain ⟨dx, m, d, fs, kvs, e1, l1, l2, l3, l4, nl, e2, e3, dc, lf, No, Nm, Nd⟩ := r.ex
    obtain ⟨l, hl⟩ := lab_of r.ok hk
    have hkg := r.ok.lt _ _ hk
    refine ⟨_, (pss_one (ps_if (PW.pt (pw_or (pt_not (pt_val (C8.pe_c c_is_whole hr (by decide) (by rfl) (pa_cons (pv 1) (pa_cons pe_int (pa_cons (pe_op op_sub (pe_fld (pv 0) rfl) pe_int) pa_nil)))))) (pw_or1 (pt_cmp (pc_dnotin (hu_of hr) (pv 1) (pe_fld (pv 0) rfl))))))
          (pss_one ps_never) pss_nil)), ?_⟩
    refine ⟨_, rfl, _, rfl, o, C, dx, fs, num gv, rfl, e1, OC.cl, OC.n_given, l3, _, _, rfl, rfl, ?_⟩
    refine ⟨(k : Nat), 0, (gv : Int) - 1, rfl, by omega, by omega, _, rfl, iteF ?_⟩
    refine ⟨_, rfl, _, rfl, o, C, dx, fs, .ref d, rfl, e1, OC.cl, OC.n_labels, l2, d, _, rfl, DGet.k (k := Sum.inl (k : Int)) e3, _, rfl, ?_⟩
    rw [dc.at_ _ _ _ hk hl]
    exact iteF q
def spLabel (C : Addr) : Sp := fun vs H Q _ => ∃ (N : Addr → Prop) (o : Addr) (ms ls : List Nat) (gv ts i k l : Nat), vs = [.ref o, num k] ∧ OrdA N H o C ms ls gv ts ∧ ms[i]? = some k ∧ ls[i]? = some l ∧ Q (num l) H
theorem ok_label (T : Txt K mg) (OC : OrdC K C) (m__need_mark : Met P w K mg base 2 C "_need_mark" (spNeed C) []) (M : MAt K C "label" "Order.label" s_Order_label ["self", "mark"]) : Met P w K mg base 3 C "label" (spLabel C) [] := by
  refine M.met OC.cl sc_Order_label (fun vs H Q E h => ?_) (fun f cdv A outer s H vs Q E hr h => ?_)
  · obtain ⟨N, o, ms, ls, gv, ts, i, k, l, rfl, _⟩ := h
    rfl
  · obtain ⟨N, o, ms, ls, gv, ts, i, k, l, rfl, r, hk, hl, q⟩ := h
    obtain ⟨dx, m, d, fs, kvs, e1, l1, l2, l3, l4, nl, e2, e3, dc, lf, No, Nm, Nd⟩ := r.ex
    refine ⟨_, (pss_cons (ps_expr (pe_mt m__need_mark hr (by decide) (pv 0) (pa_cons (pv 1) pa_nil)))
      (pss_one (ps_ret (pe_dget (hu_of hr) (pe_fld (pv 0) rfl) (pv 1) (fun _ _ => rfl))))), ?_⟩
    refine ⟨_, rfl, o, dx, fs, rfl, e1, nl _ (by decide), _, rfl, N, o, ms, ls, gv, ts, i, k, rfl, r, hk, ?_⟩
    have dg := DGet.k (k := Sum.inl (k : Int)) e3
    rw [dc.at_ _ _ _ hk hl] at dg
    exact ⟨_, rfl, o, C, dx, fs, .ref d, rfl, e1, OC.cl, OC.n_labels, l2, _, rfl, d, _, rfl, dg, q⟩
def spAhead (C : Addr) : Sp := fun vs H Q _ => ∃ (N : Addr → Prop) (o : Addr) (ms ls : List Nat) (gv ts i j k k2 : Nat), vs = [.ref o, num k, num k2] ∧ OrdA N H o C ms ls gv ts ∧ ms[i]? = some k ∧ ms[j]? = some k2 ∧ Q (.bl (decide (i < j))) H
theorem ok_ahead (T : Txt K mg) (OC : OrdC K C) (m_label : Met P w K mg base 3 C "label" (spLabel C) []) (M : MAt K C "ahead" "Order.ahead" s_Order_ahead ["self", "one", "other"]) : Met P w K mg base 4 C "ahead" (spAhead C) [] := by
  refine M.met OC.cl sc_Order_ahead (fun vs H Q E h => ?_) (fun f cdv A outer s H vs Q E hr h => ?_)
  · obtain ⟨N, o, ms, ls, gv, ts, i, j, k, k2, rfl, _⟩ := h
    rfl
  · obtain ⟨N, o, ms, ls, gv, ts, i, j, k, k2, rfl, r, hk, hk2, q⟩ := h
    obtain ⟨dx, fs, e1, nl⟩ := r.ins
    obtain ⟨l, hl⟩ := lab_of r.ok hk
    obtain ⟨l2, hl2⟩ := lab_of r.ok hk2
    refine ⟨_, (pss_one (ps_ret (pe_cmpR op_lt (pe_mt m_label hr (by decide) (pv 0) (pa_cons (pv 1) pa_nil)) (pe_mt m_label hr (by decide) (pv 0) (pa_cons (pv 2) pa_nil)) (nomark _)))), ?_⟩
    refine ⟨_, rfl, o, dx, fs, rfl, e1, nl _ (by decide), _, rfl, N, o, ms, ls, gv, ts, i, k, l, rfl, r, hk, hl, ?_⟩
    refine ⟨_, rfl, o, dx, fs, rfl, e1, nl _ (by decide), _, rfl, N, o, ms, ls, gv, ts, j, k2, l2, rfl, r, hk2, hl2, _, _, rfl, rfl, ?_⟩
    have e : decide ((l : Int) < (l2 : Int)) = decide (i < j) := by
      by_cases z : i < j
      · have := r.ok.inc _ _ _ _ z hl hl2
        rw [decide_eq_true z, decide_eq_true (by omega)]
      · rw [decide_eq_false z]
        refine decide_eq_false ?_
        by_cases z2 : i = j
        · subst z2
          rw [hl] at hl2
          have := Option.some.inj hl2
          omega
        · have := r.ok.inc _ _ _ _ (by omega : j < i) hl2 hl
          omega
    show Q (.bl (decide ((l : Int) < (l2 : Int)))) H
    rw [e]
    exact q
def spLabAt (C : Addr) : Sp := fun vs H Q _ => ∃ (N : Addr → Prop) (o : Addr) (ms ls : List Nat) (gv ts i : Nat), vs = [.ref o, num i] ∧ OrdA N H o C ms ls gv ts ∧ i ≤ ms.length ∧ Q (num (labAt ls i)) H
theorem ok_labat (T : Txt K mg) (OC : OrdC K C) (m_many : Met P w K mg base 1 C "many" (spMany C) []) (M : MAt K C "_label_at" "Order._label_at" s_Order__label_at ["self", "at"]) : Met P w K mg base 2 C "_label_at" (spLabAt C) [] := by
  refine M.met OC.cl sc_Order__label_at (fun vs H Q E h => ?_) (fun f cdv A outer s H vs Q E hr h => ?_)
  · obtain ⟨N, o, ms, ls, gv, ts, i, rfl, _⟩ := h
    rfl
  · obtain ⟨N, o, ms, ls, gv, ts, i, rfl, r, hi, q⟩ := h
    obtain ⟨dx, m, d, fs, kvs, e1, l1, l2, l3, l4, nl, e2, e3, dc, lf, No, Nm, Nd⟩ := r.ex
    refine ⟨_, (pss_cons (ps_if (pt_cmpR op_eq (pv 1) (pe_mt0 m_many hr (by decide) (pv 0)) (nomark _))
          (pss_one (ps_ret (pe_gi rfl T.g_LABELS))) pss_nil)
      (pss_one (ps_ret (pe_dget (hu_of hr) (pe_fld (pv 0) rfl) (pe_ix ix_list (pe_fld (pv 0) rfl) (pv 1) (fun _ _ => rfl)) (fun _ _ => rfl))))), ?_⟩
    refine ⟨_, rfl, _, rfl, o, dx, fs, rfl, e1, nl _ (by decide), N, o, ms, ls, gv, ts, rfl, r, rfl, _, rfl, ite2 (fun e => ?_) (fun e => ?_)⟩
    · have e2 : i = ms.length := by
        have := V.int.inj (of_decide_eq_true e)
        omega
      rw [labAt_end (by rw [r.ok.len]; omega)] at q
      exact q
    · have hlt : i < ms.length := by
        by_cases z : i = ms.length
        · exact absurd (decide_eq_true (by rw [z])) e
        · omega
      obtain ⟨k, hk⟩ : ∃ k, ms[i]? = some k := ⟨_, List.getElem?_eq_getElem hlt⟩
      obtain ⟨l, hl⟩ := lab_of r.ok hk
      rw [labAt_in hl] at q
      have hat : atI (ms.map num) ((i : Nat) : Int) = some (num k) := by
        refine atI_nat ?_
        rw [List.getElem?_map, hk]
        rfl
      have dg := DGet.k (k := Sum.inl (k : Int)) e3
      rw [dc.at_ _ _ _ hk hl] at dg
      exact ⟨_, rfl, o, C, dx, fs, .ref d, rfl, e1, OC.cl, OC.n_labels, l2, _, rfl, o, C, dx, fs, .ref m, rfl, e1, OC.cl, OC.n_marks, l1, _, rfl, m, _, _, _, rfl, rfl, SqL.of e2, hat, d, _, rfl, dg, q⟩
def spMarks (C : Addr) : Sp := fun vs H Q _ => ∃ (N : Addr → Prop) (o : Addr) (ms ls : List Nat) (gv ts : Nat), vs = [.ref o] ∧ OrdA N H o C ms ls gv ts ∧ ∀ (p : Addr) (H' : Hp), H p = none → Same H H' → H' p = some (.lst (ms.map num)) → Q (.ref p) H'
theorem ok_marks (T : Txt K mg) (OC : OrdC K C) (M : MAt K C "marks" "Order.marks" s_Order_marks ["self"]) : Met P w K mg base 1 C "marks" (spMarks C) [] := by
  refine M.met OC.cl sc_Order_marks (fun vs H Q E h => ?_) (fun f cdv A outer s H vs Q E hr h => ?_)
  · obtain ⟨N, o, ms, ls, gv, ts, rfl, _⟩ := h
    rfl
  · obtain ⟨N, o, ms, ls, gv, ts, rfl, r, q⟩ := h
    obtain ⟨dx, m, d, fs, kvs, e1, l1, l2, l3, l4, nl, e2, e3, dc, lf, No, Nm, Nd⟩ := r.ex
    refine ⟨_, (pss_one (ps_ret (pe_callTy call_list_of (by rfl) T.t_list boot_list_ (pa_cons (pe_fld (pv 0) rfl) pa_nil)))), ?_⟩
    exact ⟨_, rfl, o, C, dx, fs, .ref m, rfl, e1, OC.cl, OC.n_marks, l1, m, _, rfl, .inl (SqL.of e2), fun p hp => q p _ hp (same_new hp) upd_same⟩
end
end K18
set_option maxHeartbeats 1000000
namespace K18
open PySem PySem.Spec PyProof.Rows L2 Gd
open C8 (clsBody Met pe_mt pe_mt0)
theorem valV_drop {κ : Type} [DecidableEq κ] (k j : κ) : ∀ kvs : List (κ × V), valV (dropK kvs k) j = if j = k then none else valV kvs j
  | [] => by
    split
    · exact valV_nil
    · rfl
  | p :: r => by
    by_cases e : p.1 = k
    · rw [dropK_pos e, valV_drop k j r]
      by_cases e2 : j = k
      · rw [if_pos e2, if_pos e2]
      · rw [if_neg e2, if_neg e2, valV_neg (fun z => e2 (z.symm.trans e))]
    · rw [dropK_neg e]
      by_cases e3 : p.1 = j
      · rw [valV_pos e3, if_neg (fun z => e (e3.trans z)), valV_pos e3]
      · rw [valV_neg e3, valV_drop k j r, valV_neg e3]
theorem putK_old {κ : Type} [DecidableEq κ] {kvs : List (κ × V)} {k : κ} {v x : V} (h : valV kvs k = some x) : (putK kvs k v).length = kvs.length := by
  unfold putK
  rw [if_pos (by rw [valV_any, h]; rfl), List.length_map]
theorem num_inj {x y : Nat} (h : num x = num y) : x = y := by
  have := V.int.inj h
  omega
theorem key_ne {a b : Nat} (h : a ≠ b) : ¬ (Sum.inl (a : Int) : Key) = Sum.inl (b : Int) := fun z => h (by have := Sum.inl.inj z; omega)
theorem flat_nums (xs : List Nat) : (xs.map num).all flatV = true := by
  rw [List.all_eq_true]
  intro v hv
  obtain ⟨x, _, rfl⟩ := List.mem_map.mp hv
  rfl
section
variable {P : Program} {w : World} {K : PySem.W.Frag} {mg : Str → Option Value} {base : Heap} {C : Addr}
/-- labelled anew up to the j-th -/
def partL (n : Nat) (ls : List Nat) (j : Nat) : List Nat := (anewL n).take j ++ ls.drop j
theorem part_at {n j i : Nat} {ls : List Nat} (hl : ls.length = n) (hj : j ≤ n) : (partL n ls j)[i]? = if i < j then (anewL n)[i]? else ls[i]? := by
  unfold partL
  have h1 : ((anewL n).take j).length = j := by rw [List.length_take, anew_len]; omega
  by_cases e : i < j
  · rw [if_pos e, List.getElem?_append_left (by omega), List.getElem?_take, if_pos e]
  · rw [if_neg e, List.getElem?_append_right (by omega), h1, List.getElem?_drop]
    congr 1
    omega
def spAnew (C : Addr) : Sp := fun vs H Q _ => ∃ (N : Addr → Prop) (o : Addr) (ms ls : List Nat) (gv ts : Nat), vs = [.ref o] ∧ OrdA N H o C ms ls gv ts ∧
  ∀ H' : Hp, OrdA N H' o C ms (anewL ms.length) gv (ts + 1) → (∀ c u, ¬ N c → H c = some u → H' c = some u) → Q .non H'
theorem ok_anew (T : Txt K mg) (OC : OrdC K C) (m_many : Met P w K mg base 1 C "many" (spMany C) []) (M : MAt K C "_label_anew" "Order._label_anew" s_Order__label_anew ["self"]) : Met P w K mg base 2 C "_label_anew" (spAnew C) [] := by
  refine M.met OC.cl sc_Order__label_anew (fun vs H Q E h => ?_) (fun f cdv A outer s H vs Q E hr h => ?_)
  · obtain ⟨N, o, ms, ls, gv, ts, rfl, _⟩ := h
    rfl
  · obtain ⟨N, o, ms, ls, gv, ts, rfl, r, q⟩ := h
    obtain ⟨dx, m, d, fs, kvs, e1, l1, l2, l3, l4, nl, e2, e3, dc, lf, No, Nm, Nd⟩ := r.ex
    have hpos := r.ok.pos
    have hfew := r.ok.few
    have hol := r.ok.len
    refine ⟨_, (pss_cons (ps_set (i := 1) sc_Order__label_anew.nd rfl (Or.inl rfl) (pe_op op_fdiv (pe_gi rfl T.g_LABELS) (pe_mt0 m_many hr (by decide) (pv 0))))
      (pss_cons (ps_for PassesOwn.never rfl (pi_enum (by rfl) T.b_enumerate (pa_cons (pe_fld (pv 0) rfl) pa_nil)) (pg_tup (by rfl) (pgs_cons (pg_name (i := 2) sc_Order__label_anew.nd rfl (Or.inl rfl)) (pgs_cons (pg_name (i := 3) sc_Order__label_anew.nd rfl (Or.inl rfl)) pgs_nil)))
          (pss_one (ps_dput (hu_of hr) (pe_fld (pv 0) rfl) (pv 3) (pe_op op_mul (pv 2) (pv 1)) rfl)))
      (pss_one (ps_fldaug (pv 0) pe_int in_add)))), ?_⟩
    refine ⟨_, rfl, o, dx, fs, rfl, e1, nl _ (by decide), N, o, ms, ls, gv, ts, rfl, r, _, _, rfl, rfl, ⟨by omega, by omega⟩, ?_⟩
    have es : ((1024 : Int) / ((ms.length : Nat) : Int)) = ((1024 / ms.length : Nat) : Int) := by norm_cast
    refine ⟨_, rfl, o, C, dx, fs, .ref m, rfl, e1, OC.cl, OC.n_marks, l1, m, _, rfl, SqL.of e2, ?_⟩
    have om : o ≠ m := fun e => by rw [e, e2] at e1; cases e1
    have od : o ≠ d := fun e => by rw [e, e3] at e1; cases e1
    have md : m ≠ d := fun e => by rw [e, e3] at e2; cases e2
    refine for_it (walk_enum (K := K) (a := m) (xs := ms.map num)) (fun j σ H' => (∀ c u, c ≠ d → H c = some u → H' c = some u) ∧ (∃ kvs, H' d = some (.dK kvs) ∧ DictL kvs ms (partL ms.length ls j) gv) ∧ ∃ y2 y3 : Option V, σ = [some (.ref o), some (num (1024 / ms.length)), y2, y3])
      ⟨fun _ _ _ z => z, ⟨kvs, e3, dc⟩, none, none, ?_⟩ (fun j σ H' _ hP => SqL.of (hP.1 _ _ md e2)) (fun j x σ H1 H2 hj hP hY => ?_) (fun σ H1 hP => ?_)
    · show [some (V.ref o), some (V.int ((1024 : Int) / ((ms.length : Nat) : Int))), none, none] = _
      rw [es]
      rfl
    · obtain ⟨kp, ⟨kv, hd, dk⟩, y2, y3, rfl⟩ := hP
      obtain ⟨Tp, u, v, rfl, hT, rfl, hu, hv⟩ := hY
      rw [List.length_map] at hj
      replace hu : some (V.int (j : Nat)) = some u := hu
      replace hv : (ms.map num)[j]? = some v := hv
      cases (Option.some.inj hu)
      rw [List.getElem?_map] at hv
      obtain ⟨k, hk⟩ : ∃ k, ms[j]? = some k := ⟨_, List.getElem?_eq_getElem hj⟩
      rw [hk] at hv
      cases (show some (num k) = some v from hv)
      refine ⟨Tp, _, rfl, SqT.of upd_same, rfl, _, _, rfl, _, _, rfl, rfl, ?_⟩
      have hd2 := kep (u := .tup [V.int (j : Nat), num k]) hd hT
      have kp2 : ∀ c u, c ≠ d → H c = some u → (upd H1 Tp (.tup [V.int (j : Nat), num k])) c = some u := fun c u hc z => kep (kp c u hc z) hT
      generalize upd H1 Tp (.tup [V.int (j : Nat), num k]) = H3 at *
      obtain ⟨l, hl⟩ := lab_of r.ok hk
      have hold : valV kv (Sum.inl (k : Int)) = some (num l) := dk.at_ _ _ _ hk (by rw [part_at hol (by omega), if_neg (by omega)]; exact hl)
      refine ⟨_, rfl, _, rfl, _, _, rfl, rfl, .inl ⟨by omega, by omega⟩, ?_⟩
      refine ⟨_, rfl, o, C, dx, fs, .ref d, rfl, kp2 _ _ od e1, OC.cl, OC.n_labels, l2, _, rfl, d, _, rfl, DPut.k (k := Sum.inl (k : Int)) hd2 (small1000 (by have := dk.len; have := dk.few; omega)), fun c u hc z => ?_, ⟨_, upd_same, ?_, dk.few, fun i mm ll h1 h2 => ?_, fun kk hkk => ?_⟩, _, _, rfl⟩
      · rw [upd_ne hc]
        exact kp2 c u hc z
      · rw [putK_old hold]
        exact dk.len
      · rw [valV_put]
        rw [part_at hol (by omega)] at h2
        by_cases e : mm = k
        · subst e
          have eij := r.ok.nd _ _ _ h1 hk
          subst eij
          rw [if_pos (by omega), anew_at hj] at h2
          rw [if_pos rfl, ← Option.some.inj h2]
          show some (V.int _) = some (V.int _)
          congr 2
        · rw [if_neg (key_ne e)]
          refine dk.at_ _ _ _ h1 ?_
          rw [part_at hol (by omega)]
          have hij : i ≠ j := fun z => e (by rw [z, hk] at h1; exact (Option.some.inj h1).symm)
          by_cases z : i < j
          · rw [if_pos z]
            rw [if_pos (by omega)] at h2
            exact h2
          · rw [if_neg z]
            rw [if_neg (by omega)] at h2
            exact h2
      · rw [valV_put, if_neg (key_ne fun z => hkk j (by rw [hk, z]))]
        exact dk.no kk hkk
    · obtain ⟨kp, ⟨kv, hd, dk⟩, y2, y3, rfl⟩ := hP
      have hpart : partL ms.length ls (ms.map num).length = anewL ms.length := by
        unfold partL
        rw [List.length_map, List.take_of_length_le (by rw [anew_len]; omega), List.drop_eq_nil_of_le (by omega), List.append_nil]
      rw [hpart] at dk
      refine ⟨_, rfl, o, C, dx, fs, num ts, rfl, kp _ _ od e1, OC.cl, OC.n_times, l4, _, _, rfl, rfl, dx, fs, kp _ _ od e1, by omega, ?_⟩
      have hlen := putF_len (v := .int ((ts : Int) + 1)) l4
      refine q _ ⟨⟨dx, m, d, _, kv, upd_same, ?_, ?_, ?_, ?_, fun g hg => ?_, ?_, ?_, dk, by omega, No, Nm, Nd⟩, r.ok.anew⟩ fun c u hc z => ?_
      · rw [lookup_putF, if_neg (by decide)]
        exact l1
      · rw [lookup_putF, if_neg (by decide)]
        exact l2
      · rw [lookup_putF, if_neg (by decide)]
        exact l3
      · rw [lookup_putF, if_pos rfl]
        rfl
      · rw [lookup_putF, if_neg (fun z => hg (by rw [z]; decide))]
        exact nl g hg
      · rw [upd_ne om.symm]
        exact kp _ _ md e2
      · rw [upd_ne od.symm]
        exact hd
      · rw [upd_ne (fun e : c = o => hc (by rw [e]; exact No))]
        exact kp _ _ (fun e : c = d => hc (by rw [e]; exact Nd)) z
/-- how often all were labelled anew, behind a mark put behind the i-th -/
def readyT (ls : List Nat) (i ts : Nat) : Nat := if gap ls i then ts else ts + 1
def spBehind (C : Addr) : Sp := fun vs H Q _ => ∃ (N : Addr → Prop) (o : Addr) (ms ls : List Nat) (gv ts i k : Nat), vs = [.ref o, num k] ∧ OrdA N H o C ms ls gv ts ∧ ms[i]? = some k ∧ ms.length < 200 ∧ gv < 1000 ∧
  ∀ H' : Hp, OrdA N H' o C (inl ms (i + 1) gv) (inl (readyL ls i) (i + 1) (midL ls i)) (gv + 1) (readyT ls i ts) → (∀ c u, ¬ N c → H c = some u → H' c = some u) → Q (num gv) H'
theorem ok_behind (T : Txt K mg) (OC : OrdC K C) (m_many : Met P w K mg base 1 C "many" (spMany C) []) (m__need_mark : Met P w K mg base 2 C "_need_mark" (spNeed C) []) (m__label_at : Met P w K mg base 2 C "_label_at" (spLabAt C) []) (m__label_anew : Met P w K mg base 2 C "_label_anew" (spAnew C) [])
    (M : MAt K C "behind" "Order.behind" s_Order_behind ["self", "mark"]) : Met P w K mg base 3 C "behind" (spBehind C) [] := by
  refine M.met OC.cl sc_Order_behind (fun vs H Q E h => ?_) (fun f cdv A outer s H vs Q E hr h => ?_)
  · obtain ⟨N, o, ms, ls, gv, ts, i, k, rfl, _⟩ := h
    rfl
  · obtain ⟨N, o, ms, ls, gv, ts, i, k, rfl, r, hk, few, hgv, q⟩ := h
    obtain ⟨dx, m, d, fs, kvs, e1, l1, l2, l3, l4, nl, e2, e3, dc, lf, No, Nm, Nd⟩ := r.ex
    have hi : i < ms.length := by
      by_cases z : i < ms.length
      · exact z
      · rw [List.getElem?_eq_none (by omega)] at hk
        cases hk
    have hol := r.ok.len
    refine ⟨_, (pss_cons (ps_expr (pe_mt m__need_mark hr (by decide) (pv 0) (pa_cons (pv 1) pa_nil)))
      (pss_cons (ps_if (pt_cmpR op_ge (pe_mt0 m_many hr (by decide) (pv 0)) (pe_gi rfl T.g_MOST_MARKS) (nomark _))
          (pss_one ps_never) pss_nil)
      (pss_cons (ps_set (i := 2) sc_Order_behind.nd rfl (Or.inl rfl) (pe_bm PySem.F.plainAttrs_list PySem.F.slot_list_index PySem.F.type_list_index mt_index (pe_fld (pv 0) rfl) (pa_cons (pv 1) pa_nil)))
      (pss_cons (ps_if (pt_cmpR op_lt (pe_op op_sub (pe_mt m__label_at hr (by decide) (pv 0) (pa_cons (pe_op op_add (pv 2) pe_int) pa_nil)) (pe_mt m__label_at hr (by decide) (pv 0) (pa_cons (pv 2) pa_nil))) pe_int (nomark _))
          (pss_one (ps_expr (pe_mt0 m__label_anew hr (by decide) (pv 0)))) pss_nil)
      (pss_cons (ps_set (i := 3) sc_Order_behind.nd rfl (Or.inl rfl) (pe_fld (pv 0) rfl))
      (pss_cons (ps_fldaug (pv 0) pe_int in_add)
      (pss_cons (ps_dput (hu_of hr) (pe_fld (pv 0) rfl) (pv 3) (pe_op op_fdiv (pe_op op_add (pe_mt m__label_at hr (by decide) (pv 0) (pa_cons (pv 2) pa_nil)) (pe_mt m__label_at hr (by decide) (pv 0) (pa_cons (pe_op op_add (pv 2) pe_int) pa_nil))) pe_int) rfl)
      (pss_cons (ps_expr (pe_bm PySem.F.plainAttrs_list PySem.F.slot_list_insert PySem.F.type_list_insert mt_insert (pe_fld (pv 0) rfl) (pa_cons (pe_op op_add (pv 2) pe_int) (pa_cons (pv 3) pa_nil))))
      (pss_one (ps_ret (pv 3))))))))))), ?_⟩
    refine ⟨_, rfl, o, dx, fs, rfl, e1, nl _ (by decide), _, rfl, N, o, ms, ls, gv, ts, i, k, rfl, r, hk, ?_⟩
    refine ⟨_, rfl, o, dx, fs, rfl, e1, nl _ (by decide), N, o, ms, ls, gv, ts, rfl, r, _, _, rfl, rfl, _, rfl, ?_⟩
    rw [decide_eq_false (by omega : ¬ ((200 : Int) ≤ ((ms.length : Nat) : Int)))]
    refine iteF ?_
    refine ⟨_, rfl, o, C, dx, fs, .ref m, rfl, e1, OC.cl, OC.n_marks, l1, .inl ⟨rfl, _, SqL.of e2⟩, _, rfl, m, _, num k, i, num k, rfl, rfl, SqL.of e2, rfl, flat_nums _, ?_, by simp [eqV, num], fun mm z hm hz => ?_, ?_⟩
    · rw [List.getElem?_map, hk]
      rfl
    · rw [List.getElem?_map] at hz
      cases hx : ms[mm]? with
      | none =>
        rw [hx] at hz
        cases hz
      | some x =>
        rw [hx] at hz
        cases (show some (num x) = some z from hz)
        have hne : x ≠ k := fun e => by
          subst e
          have := r.ok.nd _ _ _ hx hk
          omega
        show eqV (.int (x : Nat)) (.int (k : Nat)) = false
        simp only [eqV, decide_eq_false_iff_not, beq_eq_false_iff_ne]
        intro z
        have z2 : (x : Int) = (k : Int) := by simpa using z
        exact hne (by omega)
    have ei : ((i : Nat) : Int) + 1 = ((i + 1 : Nat) : Int) := by omega
    have vi : [V.ref o, V.int (((i : Nat) : Int) + 1)] = [V.ref o, num (i + 1)] := by
      rw [ei]
      rfl
    refine ⟨_, rfl, o, dx, fs, rfl, e1, nl _ (by decide), _, rfl, _, _, rfl, rfl, N, o, ms, ls, gv, ts, i + 1, vi, r, by omega, ?_⟩
    refine ⟨_, rfl, o, dx, fs, rfl, e1, nl _ (by decide), _, rfl, N, o, ms, ls, gv, ts, i, rfl, r, by omega, _, _, rfl, rfl, _, _, rfl, rfl, _, rfl, ?_⟩
    refine ite2 (fun hlt => ?_) (fun hlt => ?_)
    focus
      have hg : ¬ gap ls i := fun z => by
        have := of_decide_eq_true hlt
        unfold gap at z
        omega
      refine ⟨_, rfl, o, dx, fs, rfl, e1, nl _ (by decide), N, o, ms, ls, gv, ts, rfl, r, fun H1 r1 k1 => ?_⟩
      have r2 : OrdA N H1 o C ms (readyL ls i) gv (readyT ls i ts) := by
        unfold readyL readyT
        rw [if_neg hg, if_neg hg, hol]
        exact r1
      clear r1 hlt hg
    rotate_left
    focus
      have hg : gap ls i := by
        by_cases z : gap ls i
        · exact z
        · refine absurd ?_ hlt
          unfold gap at z
          exact decide_eq_true (by omega)
      obtain ⟨H1, rfl⟩ : ∃ X, X = H := ⟨_, rfl⟩
      have k1 : ∀ c u, ¬ N c → H1 c = some u → H1 c = some u := fun _ _ _ z => z
      have r2 : OrdA N H1 o C ms (readyL ls i) gv (readyT ls i ts) := by
        unfold readyL readyT
        rw [if_pos hg, if_pos hg]
        exact r
      clear hlt hg
    all_goals
      have hmid : (((labAt (readyL ls i) i : Nat) : Int) + ((labAt (readyL ls i) (i + 1) : Nat) : Int)) / 2 = ((midL ls i : Nat) : Int) := by
        unfold midL
        norm_cast
      have ok2 := r.ok.put hi few
      have hrl := ready_len ls i
      clear e1 l1 l2 l3 l4 nl e2 e3 dc lf No Nm Nd
      obtain ⟨dx, m, d, fs, kvs, e1, l1, l2, l3, l4, nl, e2, e3, dc, lf, No, Nm, Nd⟩ := r2.ex
      refine ⟨_, rfl, o, C, dx, fs, num gv, rfl, e1, OC.cl, OC.n_given, l3, ?_⟩
      refine ⟨_, rfl, o, C, dx, fs, num gv, rfl, e1, OC.cl, OC.n_given, l3, _, _, rfl, rfl, dx, fs, e1, by omega, ?_⟩
      have om : o ≠ m := fun e => by rw [e, e2] at e1; cases e1
      have od : o ≠ d := fun e => by rw [e, e3] at e1; cases e1
      have md : m ≠ d := fun e => by rw [e, e3] at e2; cases e2
      have hlen := putF_len (v := .int ((gv : Int) + 1)) l3
      have k3 : ∀ c u, c ≠ o → H1 c = some u → (upd H1 o (.ins C dx (putF "_given" (.int ((gv : Int) + 1)) fs))) c = some u := fun c u hc z => by
        rw [upd_ne hc]
        exact z
      have o3 : (upd H1 o (.ins C dx (putF "_given" (.int ((gv : Int) + 1)) fs))) o = some (.ins C dx (putF "_given" (.int ((gv : Int) + 1)) fs)) := upd_same
      have q1 : (putF "_given" (.int ((gv : Int) + 1)) fs).lookup ("_marks" : Str) = some (.ref m) := by rw [lookup_putF, if_neg (by decide)]; exact l1
      have q2 : (putF "_given" (.int ((gv : Int) + 1)) fs).lookup ("_labels" : Str) = some (.ref d) := by rw [lookup_putF, if_neg (by decide)]; exact l2
      have q3 : (putF "_given" (.int ((gv : Int) + 1)) fs).lookup ("_given" : Str) = some (num (gv + 1)) := by rw [lookup_putF, if_pos rfl]; rfl
      have q4 : (putF "_given" (.int ((gv : Int) + 1)) fs).lookup ("_times" : Str) = some (num (readyT ls i ts)) := by rw [lookup_putF, if_neg (by decide)]; exact l4
      have ql : ∀ f, f ∉ fields → (putF "_given" (.int ((gv : Int) + 1)) fs).lookup f = none := fun g hg => by
        rw [lookup_putF, if_neg (fun z => hg (by rw [z]; decide))]
        exact nl g hg
      generalize putF "_given" (.int ((gv : Int) + 1)) fs = fs3 at *
      generalize upd H1 o (.ins C dx fs3) = H3 at *
      have e23 := k3 _ _ om.symm e2
      have e33 := k3 _ _ od.symm e3
      have dc3 : DictL kvs ms (readyL ls i) (gv + 1) := ⟨by have := dc.len; omega, by omega, dc.at_, dc.no⟩
      have ok3 : Ok ms (readyL ls i) (gv + 1) := ⟨r2.ok.len, r2.ok.pos, r2.ok.few, r2.ok.nd, fun a b z => by have := r2.ok.lt a b z; omega, r2.ok.inc, r2.ok.top⟩
      have r3 : OrdA N H3 o C ms (readyL ls i) (gv + 1) (readyT ls i ts) := ⟨⟨dx, m, d, fs3, kvs, o3, q1, q2, q3, q4, ql, e23, e33, dc3, by omega, No, Nm, Nd⟩, ok3⟩
      refine ⟨_, rfl, o, dx, fs3, rfl, o3, ql _ (by decide), _, rfl, N, o, ms, readyL ls i, gv + 1, readyT ls i ts, i, rfl, r3, by omega, ?_⟩
      refine ⟨_, rfl, o, dx, fs3, rfl, o3, ql _ (by decide), _, rfl, _, _, rfl, rfl, N, o, ms, readyL ls i, gv + 1, readyT ls i ts, i + 1, vi, r3, by omega, _, _, rfl, rfl, _, _, rfl, rfl, ⟨by omega, by omega⟩, ?_⟩
      refine ⟨_, rfl, o, C, dx, fs3, .ref d, rfl, o3, OC.cl, OC.n_labels, q2, _, rfl, d, _, rfl, DPut.k (k := Sum.inl (gv : Int)) e33 (small1000 (by have := dc.len; omega)), ?_⟩
      have hnew : valV kvs (Sum.inl (gv : Int)) = none := dc.no gv fun a z => by have := r.ok.lt a gv z; omega
      have vmid : V.int ((((labAt (readyL ls i) i : Nat) : Int) + ((labAt (readyL ls i) (i + 1) : Nat) : Int)) / 2) = num (midL ls i) := by
        rw [hmid]
        rfl
      have k4 : ∀ c u, c ≠ d → H3 c = some u → (upd H3 d (.dK (putK kvs (Sum.inl (gv : Int)) (V.int ((((labAt (readyL ls i) i : Nat) : Int) + ((labAt (readyL ls i) (i + 1) : Nat) : Int)) / 2))))) c = some u := fun c u hc z => by
        rw [upd_ne hc]
        exact z
      have d4 : (upd H3 d (.dK (putK kvs (Sum.inl (gv : Int)) (V.int ((((labAt (readyL ls i) i : Nat) : Int) + ((labAt (readyL ls i) (i + 1) : Nat) : Int)) / 2))))) d = some (.dK (putK kvs (Sum.inl (gv : Int)) (num (midL ls i)))) := by
        rw [upd_same, vmid]
      show _
      generalize upd H3 d (.dK (putK kvs (Sum.inl (gv : Int)) (V.int ((((labAt (readyL ls i) i : Nat) : Int) + ((labAt (readyL ls i) (i + 1) : Nat) : Int)) / 2)))) = H4 at *
      have o4 := k4 _ _ od o3
      have m4 := k4 _ _ md e23
      refine ⟨_, rfl, o, C, dx, fs3, .ref m, rfl, o4, OC.cl, OC.n_marks, q1, .inl ⟨rfl, _, SqL.of m4⟩, _, rfl, _, _, rfl, rfl, _, rfl, m, _, _, _, rfl, rfl, m4, small1000 (by rw [List.length_map]; omega), by omega, by omega, ?_⟩
      have em : (ms.map num).take (((i : Nat) : Int) + 1).toNat ++ [num gv] ++ (ms.map num).drop (((i : Nat) : Int) + 1).toNat = (inl ms (i + 1) gv).map num := by
        rw [inl_map, show (((i : Nat) : Int) + 1).toNat = i + 1 from by omega]
        rfl
      refine ⟨_, rfl, q _ ⟨⟨dx, m, d, fs3, putK kvs (Sum.inl (gv : Int)) (num (midL ls i)), ?_, q1, q2, q3, q4, ql, ?_, ?_, ⟨?_, by omega, fun a mm ll h1 h2 => ?_, fun kk hkk => ?_⟩, by omega, No, Nm, Nd⟩, ok2⟩ fun c u hc z => ?_⟩
      · rw [upd_ne om]
        exact o4
      · rw [upd_same, em]
      · rw [upd_ne md.symm]
        exact d4
      · have := length_putK kvs (Sum.inl (gv : Int)) (num (midL ls i))
        have := dc.len
        omega
      · rw [valV_put]
        rw [inl_at (by omega)] at h1
        rw [inl_at (by omega)] at h2
        by_cases e : a < i + 1
        · rw [if_pos e] at h1 h2
          have := r.ok.lt _ _ h1
          rw [if_neg (key_ne (by omega))]
          exact dc.at_ _ _ _ h1 h2
        · rw [if_neg e] at h1 h2
          by_cases e5 : a = i + 1
          · rw [if_pos e5] at h1 h2
            rw [← Option.some.inj h1, if_pos rfl, ← Option.some.inj h2]
          · rw [if_neg e5] at h1 h2
            have := r.ok.lt _ _ h1
            rw [if_neg (key_ne (by omega))]
            exact dc.at_ _ _ _ h1 h2
      · have hkg : kk ≠ gv := fun z => hkk (i + 1) (by rw [inl_at (by omega), if_neg (by omega), if_pos rfl, z])
        rw [valV_put, if_neg (key_ne hkg)]
        refine dc.no kk fun a z => ?_
        by_cases e : a < i + 1
        · exact hkk a (by rw [inl_at (by omega), if_pos e]; exact z)
        · exact hkk (a + 1) (by rw [inl_at (by omega), if_neg (by omega), if_neg (by omega)]; exact z)
      · have c1 : c ≠ o := fun e => hc (by rw [e]; exact No)
        have c2 : c ≠ d := fun e => hc (by rw [e]; exact Nd)
        have c3 : c ≠ m := fun e => hc (by rw [e]; exact Nm)
        rw [upd_ne c3]
        exact k4 _ _ c2 (k3 _ _ c1 (k1 c u hc z))
end
end K18
set_option maxHeartbeats 1000000
namespace K18
open PySem PySem.Spec PyProof.Rows L2 Gd
open C8 (clsBody Met pe_mt pe_mt0)
theorem er_map {α β : Type} (f : α → β) (l : List α) (k : Nat) : (l.map f).eraseIdx k = (l.eraseIdx k).map f := by
  apply List.ext_getElem?
  intro j
  rw [er_at, List.getElem?_map, List.getElem?_map, List.getElem?_map, er_at]
  split
  · rfl
  · rfl
theorem none_of' {H H' : Hp} {p : Addr} (sm : Same H H') (h : H' p = none) : H p = none := by
  cases z : H p with
  | none => rfl
  | some u =>
    have z2 := sm _ _ z
    rw [h] at z2
    cases z2
section
variable {P : Program} {w : World} {K : PySem.W.Frag} {mg : Str → Option Value} {base : Heap} {C : Addr}
def spInit (C : Addr) : Sp := fun vs H Q _ => ∃ (o dx : Addr), vs = [.ref o] ∧ H o = some (.ins C dx []) ∧
  ∀ (H' : Hp) (N' : Addr → Prop), OrdA N' H' o C [0] [0] 1 0 → (∀ c u, c ≠ o → H c = some u → H' c = some u) → (∀ c, N' c → c = o ∨ H c = none) → Q .non H'
theorem fn_init {f : Addr} {fd : FuncData} (T : Txt K mg) (OC : OrdC K C) (F : Fun K "__init__" "Order.__init__" s_Order___init__ f fd) : FnOk P w K mg base CX0 1 f fd ["self"] (spInit C) := by
  refine F.ok sc_Order___init__ (fun vs H Q E h => ?_) (fun cdv A outer s H vs Q E hr h => ?_)
  · obtain ⟨o, dx, rfl, _⟩ := h
    rfl
  · obtain ⟨o, dx, rfl, e1, q⟩ := h
    refine ⟨_, (pss_cons (ps_fld (pv 0) (pe_lst (pa_cons pe_int pa_nil)) rfl)
      (pss_cons (ps_fld (pv 0) (pe_disp (pps_cons pe_int pe_int pps_nil) (by rfl) (by rfl) (fun z => by cases z) (by decide)) rfl)
      (pss_cons (ps_fld (pv 0) pe_int rfl)
      (pss_one (ps_fld (pv 0) pe_int rfl))))), ?_⟩
    refine ⟨(by show 1 ≤ sizeLine; decide), fun m hm => ?_⟩
    have om : o ≠ m := fun e => by rw [← e, e1] at hm; cases hm
    refine ⟨_, rfl, o, C, dx, [], rfl, kep e1 hm, OC.cl, OC.n_marks, by decide, ?_⟩
    have k1 : ∀ c u, c ≠ o → H c = some u → (upd (upd H m (.lst [V.int 0])) o (.ins C dx (putF "_marks" (.ref m) []))) c = some u := fun c u h z => by
      rw [upd_ne h]
      exact kep z hm
    have n1 : ∀ c, (upd (upd H m (.lst [V.int 0])) o (.ins C dx (putF "_marks" (.ref m) []))) c = none → H c = none := fun c z => upd_none (upd_none z)
    have a1o : (upd (upd H m (.lst [V.int 0])) o (.ins C dx (putF "_marks" (.ref m) []))) o = some (.ins C dx (putF "_marks" (.ref m) [])) := upd_same
    have a1m : (upd (upd H m (.lst [V.int 0])) o (.ins C dx (putF "_marks" (.ref m) []))) m = some (.lst [V.int 0]) := by
      rw [upd_ne om.symm, upd_same]
    generalize upd (upd H m (.lst [V.int 0])) o (.ins C dx (putF "_marks" (.ref m) [])) = A1 at *
    intro d hd
    have odd : o ≠ d := fun e => by rw [← e, a1o] at hd; cases hd
    have mdd : m ≠ d := fun e => by rw [← e, a1m] at hd; cases hd
    refine ⟨upd_same, [(Sum.inl 0, .int 0)], rfl, by decide, ?_⟩
    have p1 : (putF "_marks" (.ref m) ([] : List (Str × V))).length ≤ 1 := length_putF _ _ _
    refine ⟨_, rfl, o, C, dx, _, rfl, ?_, OC.cl, OC.n_labels, Nat.lt_of_le_of_lt p1 (by decide), ?_⟩
    · rw [upd_ne odd, upd_ne odd]
      exact a1o
    have k2 : ∀ c u, c ≠ o → A1 c = some u → (upd (upd (upd A1 d (.dK [])) d (.dK (mergeK [] [((Sum.inl 0 : Key), V.int 0)]))) o (.ins C dx (putF "_labels" (.ref d) (putF "_marks" (.ref m) [])))) c = some u := fun c u h z => by
      rw [upd_ne h, upd_ne (ne_of_none z hd), upd_ne (ne_of_none z hd)]
      exact z
    have a2o : (upd (upd (upd A1 d (.dK [])) d (.dK (mergeK [] [((Sum.inl 0 : Key), V.int 0)]))) o (.ins C dx (putF "_labels" (.ref d) (putF "_marks" (.ref m) [])))) o = some (.ins C dx (putF "_labels" (.ref d) (putF "_marks" (.ref m) []))) := upd_same
    have a2d : (upd (upd (upd A1 d (.dK [])) d (.dK (mergeK [] [((Sum.inl 0 : Key), V.int 0)]))) o (.ins C dx (putF "_labels" (.ref d) (putF "_marks" (.ref m) [])))) d = some (.dK [((Sum.inl 0 : Key), V.int 0)]) := by
      rw [upd_ne odd.symm, upd_same]
      rfl
    have a2m := k2 _ _ om.symm a1m
    generalize upd (upd (upd A1 d (.dK [])) d (.dK (mergeK [] [((Sum.inl 0 : Key), V.int 0)]))) o (.ins C dx (putF "_labels" (.ref d) (putF "_marks" (.ref m) []))) = A2 at *
    have p2 : (putF "_labels" (.ref d) (putF "_marks" (.ref m) ([] : List (Str × V)))).length ≤ 2 := Nat.le_trans (length_putF _ _ _) (Nat.succ_le_succ p1)
    refine ⟨_, rfl, o, C, dx, _, rfl, a2o, OC.cl, OC.n_given, Nat.lt_of_le_of_lt p2 (by decide), ?_⟩
    have p3 : (putF "_given" (.int 1) (putF "_labels" (.ref d) (putF "_marks" (.ref m) ([] : List (Str × V))))).length ≤ 3 := Nat.le_trans (length_putF _ _ _) (Nat.succ_le_succ p2)
    refine ⟨_, rfl, o, C, dx, _, rfl, upd_same, OC.cl, OC.n_times, Nat.lt_of_le_of_lt p3 (by decide), ?_⟩
    have p4 : (putF "_times" (.int 0) (putF "_given" (.int 1) (putF "_labels" (.ref d) (putF "_marks" (.ref m) ([] : List (Str × V)))))).length ≤ 4 := Nat.le_trans (length_putF _ _ _) (Nat.succ_le_succ p3)
    refine q _ (fun c => c = o ∨ c = m ∨ c = d) ⟨⟨dx, m, d, _, [((Sum.inl 0 : Key), V.int 0)], upd_same, ?_, ?_, ?_, ?_, fun g hg => ?_, ?_, ?_, ⟨Nat.le_refl 1, by decide, fun a mm ll h1 h2 => ?_, fun kk hkk => ?_⟩, Nat.le_trans p4 (by decide), .inl rfl, .inr (.inl rfl), .inr (.inr rfl)⟩, ?_⟩ (fun c u hc z => ?_) fun c hc => ?_
    · rw [lookup_putF, if_neg (by decide), lookup_putF, if_neg (by decide), lookup_putF, if_neg (by decide), lookup_putF, if_pos rfl]
    · rw [lookup_putF, if_neg (by decide), lookup_putF, if_neg (by decide), lookup_putF, if_pos rfl]
    · rw [lookup_putF, if_neg (by decide), lookup_putF, if_pos rfl]
      rfl
    · rw [lookup_putF, if_pos rfl]
      rfl
    · have hm2 : g ≠ "_times" ∧ g ≠ "_given" ∧ g ≠ "_labels" ∧ g ≠ "_marks" := ⟨fun e => hg (by rw [e]; decide), fun e => hg (by rw [e]; decide), fun e => hg (by rw [e]; decide), fun e => hg (by rw [e]; decide)⟩
      rw [lookup_putF, if_neg hm2.1, lookup_putF, if_neg hm2.2.1, lookup_putF, if_neg hm2.2.2.1, lookup_putF, if_neg hm2.2.2.2]
      rfl
    · rw [upd_ne om.symm, upd_ne om.symm]
      exact a2m
    · rw [upd_ne odd.symm, upd_ne odd.symm]
      exact a2d
    · cases a with
      | zero =>
        cases (show some 0 = some mm from h1)
        cases (show some 0 = some ll from h2)
        exact valV_pos rfl
      | succ a => cases h1
    · have hk0 : kk ≠ 0 := fun z => hkk 0 (by rw [z]; rfl)
      rw [valV_neg (fun z => key_ne (a := 0) (b := kk) (fun y => hk0 y.symm) z)]
      rfl
    · refine ⟨rfl, Nat.succ_pos 0, by decide, fun a b x h1 h2 => ?_, fun a x h1 => ?_, fun a b x y hab h1 h2 => ?_, fun a x h1 => ?_⟩
      · cases a with
        | zero =>
          cases b with
          | zero => rfl
          | succ b => cases h2
        | succ a => cases h1
      · cases a with
        | zero =>
          cases (show some 0 = some x from h1)
          decide
        | succ a => cases h1
      · cases b with
        | zero => omega
        | succ b => cases h2
      · cases a with
        | zero =>
          cases (show some 0 = some x from h1)
          decide
        | succ a => cases h1
    · rw [upd_ne hc, upd_ne hc]
      exact k2 _ _ hc (k1 _ _ hc z)
    · rcases hc with rfl | rfl | rfl
      · exact .inl rfl
      · exact .inr hm
      · exact .inr (n1 _ hd)
def spCopied (C : Addr) : Sp := fun vs H Q _ => ∃ (N : Addr → Prop) (o : Addr) (ms ls : List Nat) (gv ts : Nat), vs = [.ref o] ∧ OrdA N H o C ms ls gv ts ∧
  ∀ (u : Addr) (H' : Hp) (N' : Addr → Prop), H u = none → OrdA N' H' u C ms ls gv ts → (∀ c, N' c → H c = none) → Same H H' → Q (.ref u) H'
theorem ok_copied {fO : Addr} {fdO : FuncData} (T : Txt K mg) (OC : OrdC K C) (cO : mg "Order" = some (.ref C)) (M_Order : Mk K C fO) (B_Order : Binds K fdO ["self"] []) (G_Order : FnOk P w K mg base CX0 1 fO fdO ["self"] (spInit C))
    (M : MAt K C "copied" "Order.copied" s_Order_copied ["self"]) : Met P w K mg base 3 C "copied" (spCopied C) [] := by
  refine M.met OC.cl sc_Order_copied (fun vs H Q E h => ?_) (fun f cdv A outer s H vs Q E hr h => ?_)
  · obtain ⟨N, o, ms, ls, gv, ts, rfl, _⟩ := h
    rfl
  · obtain ⟨N, o, ms, ls, gv, ts, rfl, r, q⟩ := h
    obtain ⟨dx, m, d, fs, kvs, e1, l1, l2, l3, l4, nl, e2, e3, dc, lf, No, Nm, Nd⟩ := r.ex
    refine ⟨_, (pss_cons (ps_set (i := 1) sc_Order_copied.nd rfl (Or.inl rfl) (pe_make0 M_Order G_Order (hr.mono (by decide)) rfl cO B_Order .nil pass0))
      (pss_cons (ps_fld (pv 1) (pe_callTy call_list_of (by rfl) T.t_list boot_list_ (pa_cons (pe_fld (pv 0) rfl) pa_nil)) rfl)
      (pss_cons (ps_fld (pv 1) (pe_callTy call_dictD (by rfl) T.t_dict boot_dict_ (pa_cons (pe_fld (pv 0) rfl) pa_nil)) rfl)
      (pss_cons (ps_fld (pv 1) (pe_fld (pv 0) rfl) rfl)
      (pss_cons (ps_fld (pv 1) (pe_fld (pv 0) rfl) rfl)
      (pss_one (ps_ret (pv 1)))))))), ?_⟩
    intro u du n1 n2 ne
    refine ⟨u, du, rfl, upd_same, fun H1 N1 r1 k1 f1 => ⟨rfl, ?_⟩⟩
    have sm : Same H H1 := fun c x z => k1 c x (ne_of_none z n1) (by rw [upd_ne (ne_of_none z n1), upd_ne (ne_of_none z n2)]; exact z)
    obtain ⟨dy, m1, d1, gs, kv1, y1, z1, z2, z3, z4, zl, y2, y3, dc1, lg, No1, Nm1, Nd1⟩ := r1.ex
    refine ⟨_, rfl, o, C, dx, fs, .ref m, rfl, sm _ _ e1, OC.cl, OC.n_marks, l1, m, _, rfl, .inl (SqL.of (sm _ _ e2)), fun p hp => ?_⟩
    have pu : p ≠ u := fun e => by rw [e, y1] at hp; cases hp
    refine ⟨_, rfl, u, C, dy, gs, rfl, kep y1 hp, OC.cl, OC.n_marks, by omega, ?_⟩
    have g1 := putF_len (v := .ref p) z1
    have sm2 : Same H (upd (upd H1 p (.lst (ms.map num))) u (.ins C dy (putF "_marks" (.ref p) gs))) := fun c x z => by
      rw [upd_ne (ne_of_none z n1)]
      exact kep (sm _ _ z) hp
    have a2u : (upd (upd H1 p (.lst (ms.map num))) u (.ins C dy (putF "_marks" (.ref p) gs))) u = some (.ins C dy (putF "_marks" (.ref p) gs)) := upd_same
    have a2p : (upd (upd H1 p (.lst (ms.map num))) u (.ins C dy (putF "_marks" (.ref p) gs))) p = some (.lst (ms.map num)) := by
      rw [upd_ne pu, upd_same]
    have w1 : (putF "_marks" (.ref p) gs).lookup ("_marks" : Str) = some (.ref p) := by rw [lookup_putF, if_pos rfl]
    have w2 : (putF "_marks" (.ref p) gs).lookup ("_labels" : Str) = some (.ref d1) := by rw [lookup_putF, if_neg (by decide)]; exact z2
    have w3 : (putF "_marks" (.ref p) gs).lookup ("_given" : Str) = some (num 1) := by rw [lookup_putF, if_neg (by decide)]; exact z3
    have w4 : (putF "_marks" (.ref p) gs).lookup ("_times" : Str) = some (num 0) := by rw [lookup_putF, if_neg (by decide)]; exact z4
    have wl : ∀ f, f ∉ fields → (putF "_marks" (.ref p) gs).lookup f = none := fun g hg => by
      rw [lookup_putF, if_neg (fun z => hg (by rw [z]; decide))]
      exact zl g hg
    have np : H p = none := none_of' sm hp
    generalize putF "_marks" (.ref p) gs = g2 at *
    generalize upd (upd H1 p (.lst (ms.map num))) u (.ins C dy g2) = A2 at *
    clear y1 y2 y3 z1 z2 z3 z4 zl dc1 k1 r1 Nm1 Nd1 No1
    refine ⟨_, rfl, o, C, dx, fs, .ref d, rfl, sm2 _ _ e1, OC.cl, OC.n_labels, l2, d, kvs, rfl, .inl (sm2 _ _ e3), fun p2 hp2 => ?_⟩
    have p2u : p2 ≠ u := fun e => by rw [e, a2u] at hp2; cases hp2
    have p2p : p ≠ p2 := fun e => by rw [← e, a2p] at hp2; cases hp2
    refine ⟨_, rfl, u, C, dy, g2, rfl, kep a2u hp2, OC.cl, OC.n_labels, by omega, ?_⟩
    have g3l := putF_len (v := .ref p2) w2
    have sm3 : Same H (upd (upd A2 p2 (.dK kvs)) u (.ins C dy (putF "_labels" (.ref p2) g2))) := fun c x z => by
      rw [upd_ne (ne_of_none z n1)]
      exact kep (sm2 _ _ z) hp2
    have a3u : (upd (upd A2 p2 (.dK kvs)) u (.ins C dy (putF "_labels" (.ref p2) g2))) u = some (.ins C dy (putF "_labels" (.ref p2) g2)) := upd_same
    have a3p : (upd (upd A2 p2 (.dK kvs)) u (.ins C dy (putF "_labels" (.ref p2) g2))) p = some (.lst (ms.map num)) := by
      rw [upd_ne pu]
      exact kep a2p hp2
    have a3d : (upd (upd A2 p2 (.dK kvs)) u (.ins C dy (putF "_labels" (.ref p2) g2))) p2 = some (.dK kvs) := by
      rw [upd_ne p2u, upd_same]
    have v1 : (putF "_labels" (.ref p2) g2).lookup ("_marks" : Str) = some (.ref p) := by rw [lookup_putF, if_neg (by decide)]; exact w1
    have v2 : (putF "_labels" (.ref p2) g2).lookup ("_labels" : Str) = some (.ref p2) := by rw [lookup_putF, if_pos rfl]
    have v3 : (putF "_labels" (.ref p2) g2).lookup ("_given" : Str) = some (num 1) := by rw [lookup_putF, if_neg (by decide)]; exact w3
    have v4 : (putF "_labels" (.ref p2) g2).lookup ("_times" : Str) = some (num 0) := by rw [lookup_putF, if_neg (by decide)]; exact w4
    have vl : ∀ f, f ∉ fields → (putF "_labels" (.ref p2) g2).lookup f = none := fun g hg => by
      rw [lookup_putF, if_neg (fun z => hg (by rw [z]; decide))]
      exact wl g hg
    have np2 : H p2 = none := none_of' sm2 hp2
    generalize putF "_labels" (.ref p2) g2 = g3 at *
    generalize upd (upd A2 p2 (.dK kvs)) u (.ins C dy g3) = A3 at *
    refine ⟨_, rfl, o, C, dx, fs, num gv, rfl, sm3 _ _ e1, OC.cl, OC.n_given, l3, ?_⟩
    refine ⟨_, rfl, u, C, dy, g3, rfl, a3u, OC.cl, OC.n_given, by omega, ?_⟩
    have g4l := putF_len (v := num gv) v3
    have ou : o ≠ u := ne_of_none e1 n1
    refine ⟨_, rfl, o, C, dx, fs, num ts, rfl, ?_, OC.cl, OC.n_times, l4, ?_⟩
    · rw [upd_ne ou]
      exact sm3 _ _ e1
    have v5 : (putF "_given" (num gv) g3).lookup ("_times" : Str) = some (num 0) := by rw [lookup_putF, if_neg (by decide)]; exact v4
    have g5l := putF_len (v := num ts) v5
    refine ⟨_, rfl, u, C, dy, _, rfl, upd_same, OC.cl, OC.n_times, by omega, ?_⟩
    refine ⟨_, rfl, q u _ (fun c => c = u ∨ c = p ∨ c = p2) n1 ⟨⟨dy, p, p2, _, kvs, upd_same, ?_, ?_, ?_, ?_, fun g hg => ?_, ?_, ?_, dc, by omega, .inl rfl, .inr (.inl rfl), .inr (.inr rfl)⟩, r.ok⟩ (fun c hc => ?_) fun c x z => ?_⟩
    · rw [lookup_putF, if_neg (by decide), lookup_putF, if_neg (by decide)]
      exact v1
    · rw [lookup_putF, if_neg (by decide), lookup_putF, if_neg (by decide)]
      exact v2
    · rw [lookup_putF, if_neg (by decide), lookup_putF, if_pos rfl]
    · rw [lookup_putF, if_pos rfl]
    · rw [lookup_putF, if_neg (fun z => hg (by rw [z]; decide)), lookup_putF, if_neg (fun z => hg (by rw [z]; decide))]
      exact vl g hg
    · rw [upd_ne pu, upd_ne pu]
      exact a3p
    · rw [upd_ne p2u, upd_ne p2u]
      exact a3d
    · rcases hc with rfl | rfl | rfl
      · exact n1
      · exact np
      · exact np2
    · rw [upd_ne (ne_of_none z n1), upd_ne (ne_of_none z n1)]
      exact sm3 _ _ z
end
end K18
set_option maxHeartbeats 1000000
namespace K18
open PySem PySem.Spec PyProof.Rows L2 Gd
open C8 (clsBody Met pe_mt pe_mt0)
abbrev kl : Key := Sum.inr "left"
abbrev ks : Key := Sum.inr "seed"
abbrev kt : Key := Sum.inr "turn"
abbrev kr : Key := Sum.inr "row"
abbrev kg : Key := Sum.inr "given"
/-- the box of a cell, at most so many numbers drawn -/
def BoxD (H : Hp) (b : Addr) (n : Int) : Prop := ∃ (x y z : Int) (kvs : List (Key × V)), H b = some (.dK kvs) ∧ kvs.length = 3 ∧ valV kvs kl = some (.int x) ∧ valV kvs ks = some (.int y) ∧ valV kvs kt = some (.int z) ∧ 0 ≤ x ∧ 0 ≤ y ∧ y < 2147483647 ∧ 0 ≤ z ∧ z ≤ n
theorem BoxD.kp {H H' : Hp} {b : Addr} {n : Int} (h : BoxD H b n) (k : ∀ u, H b = some u → H' b = some u) : BoxD H' b n := by
  obtain ⟨x, y, z, kvs, h1, h2⟩ := h
  exact ⟨x, y, z, kvs, k _ h1, h2⟩
theorem BoxD.some {H : Hp} {b : Addr} {n : Int} (h : BoxD H b n) : ∃ u, H b = some u := by
  obtain ⟨x, y, z, kvs, h1, h2⟩ := h
  exact ⟨_, h1⟩
theorem BoxD.up {H : Hp} {b : Addr} {n m : Int} (h : BoxD H b n) (k : n ≤ m) : BoxD H b m := by
  obtain ⟨x, y, z, kvs, h1, h2, h3, h4, h5, h6, h7, h8, h9, h10⟩ := h
  exact ⟨x, y, z, kvs, h1, h2, h3, h4, h5, h6, h7, h8, h9, by omega⟩
theorem BoxD.ne {H : Hp} {b p : Addr} {n : Int} (h : BoxD H b n) (e : H p = none) : p ≠ b := fun z => by
  obtain ⟨u, hu⟩ := h.some
  rw [z, hu] at e
  cases e
theorem dgs {H : Hp} {a : Addr} {kvs : List (Key × V)} {k : Str} {v : V} (e : H a = some (.dK kvs)) (h : valV kvs (Sum.inr k) = some v) : DGet H a (.str k) (some v) := h ▸ DGet.k (k := Sum.inr k) e
section
variable {P : Program} {w : World} {K : PySem.W.Frag} {mg : Str → Option Value} {base : Heap} {C : Addr}
theorem ok_cell (T : Txt K mg) (D : DefAt K mg "_law_cell_at" s__law_cell_at ["_law_script", "_law_k"]) : CalG P w K mg base 1 "_law_cell_at" (Gd.spCell K) := by
  refine D.cal sc__law_cell_at (fun vs H Q E h => ?_) (fun f cdv A outer s H vs Q E hG hr h => ?_)
  · obtain ⟨a, ns, k, rfl, _⟩ := h
    rfl
  · obtain ⟨a, ns, k, rfl, hS, hl, hk, q⟩ := h
    refine ⟨_, (pss_cons (ps_if (pt_cmpR op_lt (pv 1) (pe_callB call_len (by rfl) T.b_len boot_len_ (pa_cons (pv 0) pa_nil)) (nomark _))
          (pss_one (ps_ret (pe_ix ix_list (pv 0) (pv 1) (fun _ _ => rfl)))) pss_nil)
      (pss_one (ps_ret (pe_op op_add (pe_op op_mul pe_int (pv 1)) pe_int)))), ?_⟩
    refine ⟨_, rfl, _, rfl, _, _, rfl, .inl ⟨_, hS, rfl⟩, _, _, rfl, rfl, _, rfl, ?_⟩
    refine ite2 (fun e => ?_) (fun e => ?_)
    · have e2 := of_decide_eq_true e
      rw [List.length_map] at e2
      obtain ⟨n, hn⟩ := atI_ints hk e2
      exact ⟨_, rfl, _, rfl, _, _, _, _, rfl, rfl, hS, hn, q n⟩
    · exact ⟨_, rfl, _, _, rfl, rfl, .inl ⟨by decide, by decide⟩, _, _, rfl, rfl, q _⟩
def spBoxD : Sp := fun vs H Q _ => ∃ n : Int, vs = [.int n] ∧ ∀ (b : Addr) (H' : Hp), H b = none → BoxD H' b 0 → (∀ c, c ≠ b → H' c = H c) → Q (.ref b) H'
theorem ok_box (T : Txt K mg) (D : DefAt K mg "_law_box" s__law_box ["_law_cell"]) : CalG P w K mg base 1 "_law_box" spBoxD := by
  refine D.cal sc__law_box (fun vs H Q E h => ?_) (fun f cdv A outer s H vs Q E hG hr h => ?_)
  · obtain ⟨n, rfl, _⟩ := h
    rfl
  · obtain ⟨n, rfl, q⟩ := h
    refine ⟨_, (pss_one (ps_ret (pe_disp (pps_cons pe_str (pe_callB (call_max2 rfl) (by rfl) T.b_max boot_max_ (pa_cons pe_int (pa_cons (pe_op op_sub (pv 0) (pe_op op_pow pe_int pe_int)) pa_nil))) (pps_cons pe_str (pe_op op_mod (pv 0) pe_int) (pps_cons pe_str pe_int pps_nil))) (by rfl) (by rfl) (fun z => by cases z) (by decide)))), ?_⟩
    intro b hb
    refine ⟨_, rfl, _, _, rfl, rfl, ⟨by decide, by decide, by decide⟩, _, _, rfl, rfl, _, _, rfl, ?_⟩
    refine ⟨_, rfl, _, _, rfl, rfl, (by show (0 : Int) < 2147483647; decide), ?_⟩
    refine ⟨upd_same, [(kl, _), (ks, _), (kt, .int 0)], rfl, (by show 3 ≤ 15; decide), ?_⟩
    refine q b _ hb ⟨_, _, _, _, upd_same, rfl, valV_pos rfl, (valV_neg (show ¬ kl = ks by decide)).trans (valV_pos rfl), (valV_neg (show ¬ kl = kt by decide)).trans ((valV_neg (show ¬ ks = kt by decide)).trans (valV_pos rfl)), ?_, ?_, ?_, by decide, by decide⟩ fun c hc => ?_
    · split <;> omega
    · exact Int.emod_nonneg _ (by decide)
    · exact Int.emod_lt_of_pos _ (by decide)
    · rw [upd_ne hc, upd_ne hc]
def spTakeD : Sp := fun vs H Q _ => ∃ (b : Addr) (m n : Int), vs = [.ref b, .int m] ∧ BoxD H b n ∧ n ≤ 1000000 ∧ 0 < m ∧ m ≤ 1000000000 ∧
  ∀ (d : Int) (H' : Hp), 0 ≤ d → d < m → BoxD H' b (n + 1) → (∀ c, c ≠ b → H' c = H c) → Q (.int d) H'
theorem ok_take (T : Txt K mg) (D : DefAt K mg "_law_take" s__law_take ["_law_box_here", "_law_many"]) : CalG P w K mg base 1 "_law_take" spTakeD := by
  refine D.cal sc__law_take (fun vs H Q E h => ?_) (fun f cdv A outer s H vs Q E hG hr h => ?_)
  · obtain ⟨b, m, n, rfl, _⟩ := h
    rfl
  · obtain ⟨b, m, n, rfl, hB, hn, hm0, hm1, q⟩ := h
    obtain ⟨x, y, z, kvs, hb, hl3, vl, vs, vt, hx, hy0, hy1, hz0, hz1⟩ := hB
    refine ⟨_, (pss_cons (ps_if (pt_cmpR op_gt (pe_dget (hu_of hr) (pv 0) pe_str (fun _ _ => rfl)) pe_int (nomark _))
          (pss_cons (ps_set (i := 2) sc__law_take.nd rfl (Or.inl rfl) (pe_op op_mod (pe_dget (hu_of hr) (pv 0) pe_str (fun _ _ => rfl)) (pv 1)))
          (pss_cons (ps_dput (hu_of hr) (pv 0) pe_str (pe_op op_fdiv (pe_dget (hu_of hr) (pv 0) pe_str (fun _ _ => rfl)) (pv 1)) rfl)
          (pss_one (ps_ret (pv 2))))) pss_nil)
      (pss_cons (ps_dput (hu_of hr) (pv 0) pe_str (pe_op op_add (pe_dget (hu_of hr) (pv 0) pe_str (fun _ _ => rfl)) pe_int) rfl)
      (pss_cons (ps_set (i := 3) sc__law_take.nd rfl (Or.inl rfl) (pe_op op_mod (pe_op op_pow (pe_op op_add (pe_dget (hu_of hr) (pv 0) pe_str (fun _ _ => rfl)) (pe_op op_mul pe_int (pe_dget (hu_of hr) (pv 0) pe_str (fun _ _ => rfl)))) pe_int) pe_int))
      (pss_cons (ps_set (i := 3) sc__law_take.nd rfl (Or.inl rfl) (pe_op op_mod (pe_op op_pow (pe_op op_add (pv 3) (pe_op op_mul pe_int (pe_dget (hu_of hr) (pv 0) pe_str (fun _ _ => rfl)))) pe_int) pe_int))
      (pss_one (ps_ret (pe_op op_mod (pe_op op_fdiv (pv 3) pe_int) (pv 1)))))))), ?_⟩
    refine ⟨_, rfl, b, _, rfl, dgs hb vl, _, _, rfl, rfl, _, rfl, ?_⟩
    refine ite2 (fun e => ?_) (fun e => ?_)
    · have e2 := of_decide_eq_true e
      refine ⟨_, rfl, b, _, rfl, dgs hb vl, _, rfl, _, _, rfl, rfl, hm0, ?_⟩
      refine ⟨_, rfl, b, _, rfl, dgs hb vl, _, rfl, _, _, rfl, rfl, ⟨hm0, by omega⟩, ?_⟩
      refine ⟨_, rfl, b, _, rfl, DPut.k (k := kl) hb (small1000 (by omega)), ?_⟩
      refine ⟨_, rfl, ?_⟩
      refine q _ _ (Int.emod_nonneg _ (by omega)) (Int.emod_lt_of_pos _ hm0) ⟨x / m, y, z, _, upd_same, ?_, ?_, ?_, ?_, ?_, hy0, hy1, hz0, by omega⟩ fun c hc => upd_ne hc
      · rw [putK_old vl]
        exact hl3
      · rw [valV_put, if_pos rfl]
      · rw [valV_put, if_neg (by decide)]
        exact vs
      · rw [valV_put, if_neg (by decide)]
        exact vt
      · exact Int.ediv_nonneg (by omega) (by omega)
    · refine ⟨_, rfl, b, _, rfl, dgs hb vt, _, _, rfl, rfl, ?_⟩
      refine ⟨_, rfl, b, _, rfl, DPut.k (k := kt) hb (small1000 (by omega)), ?_⟩
      have hb1 : (upd H b (.dK (putK kvs kt (.int (z + 1))))) b = some (.dK (putK kvs kt (.int (z + 1)))) := upd_same
      have vl1 : valV (putK kvs kt (.int (z + 1))) kl = some (.int x) := by rw [valV_put, if_neg (by decide)]; exact vl
      have vs1 : valV (putK kvs kt (.int (z + 1))) ks = some (.int y) := by rw [valV_put, if_neg (by decide)]; exact vs
      have vt1 : valV (putK kvs kt (.int (z + 1))) kt = some (.int (z + 1)) := by rw [valV_put, if_pos rfl]
      have hl1 : (putK kvs kt (.int (z + 1))).length = 3 := by rw [putK_old vt]; exact hl3
      generalize putK kvs kt (.int (z + 1)) = kv1 at *
      refine ⟨_, rfl, b, _, rfl, dgs hb1 vs1, _, rfl, b, _, rfl, dgs hb1 vt1, _, _, rfl, rfl, .inl ⟨by omega, by omega⟩, _, _, rfl, rfl, ?_⟩
      refine ⟨_, _, rfl, rfl, ⟨by decide, by decide, by omega⟩, _, _, rfl, rfl, (by show (0 : Int) < 2147483629; decide), ?_⟩
      generalize hA : (y + 7919 * (z + 1)) ^ (3 : Int).toNat % 2147483629 = A
      have a0 : 0 ≤ A := hA ▸ Int.emod_nonneg _ (by decide)
      have a1 : A < 2147483629 := hA ▸ Int.emod_lt_of_pos _ (by decide)
      clear hA
      refine ⟨_, rfl, _, rfl, b, _, rfl, dgs hb1 vt1, _, _, rfl, rfl, .inl ⟨by omega, by omega⟩, _, _, rfl, rfl, ?_⟩
      refine ⟨_, _, rfl, rfl, ⟨by decide, by decide, by omega⟩, _, _, rfl, rfl, (by show (0 : Int) < 2147483587; decide), ?_⟩
      refine ⟨_, rfl, _, _, rfl, rfl, ⟨by decide, by decide⟩, ?_⟩
      refine ⟨_, rfl, _, _, rfl, rfl, hm0, ?_⟩
      exact q _ _ (Int.emod_nonneg _ (by omega)) (Int.emod_lt_of_pos _ hm0) ⟨_, _, _, _, hb1, hl1, vl1, vs1, vt1, hx, hy0, hy1, by omega, by omega⟩ fun c hc => upd_ne hc
end
end K18
/-! An own error whose __init__ says super().__init__(a text), then keeps the one thing it is made of. -/
namespace Gc
open PySem PySem.W PySem.Calls PyProof.Rows PySem.HandSPX
def iA (p1 p2 : Pos) : Arguments := { posonlyargs := [], args := [{ arg := "self", annotation := none, pos := p1 }, { arg := "count", annotation := none, pos := p2 }], vararg := none, kwonlyargs := [], kw_defaults := [], kwarg := none, defaults := [] }
def iB (msg : Str) (kk : Nat) (p1 p2 p3 p4 p5 p6 q1 q2 q3 q4 : Pos) : List Stmt :=
  [.Expr (.Call (.Attribute (.Call (.Name "super" p1) [] [] p2) "__init__" p3) [.Constant (.str msg) kk p4] [] p5) p6,
   .Assign [.Attribute (.Name "self" q1) "count" q2] (.Name "count" q3) q4]
def iS : Scope := { kind := .function, names := [(PySem.Str.ofString "self", .local), (PySem.Str.ofString "count", .local), (PySem.Str.ofString "__class__", .free), (PySem.Str.ofString "super", .globalImplicit)], isGenerator := false, isCoroutine := false, more := [] }
/-- what the written part says of the class at C and of its __init__ at fI -/
structure ErrTxt (P : Program) (K : Frag) (C fI : Addr) (qn msg : Str) : Prop where
  cls : ∃ nm q N bs bm sn sub ab col dd k0 k1 k2 k3 k5, K.lookup C = some (excClassObj nm q C N bs bm true sn sub ab col dd k0 k1 k2 k3 k5 "ValueError.__new__") ∧ refsVE bm = true
  sa : findIn K (.ref C) "__setattr__" = some (some (.builtin "object.__setattr__"))
  ga : findIn K (.ref C) "__getattribute__" = some (some (.builtin "BaseException.__getattribute__"))
  gg : findIn K (.ref C) "__getattr__" = some none
  noN : findIn K (.ref C) "count" = some none
  iC : findIn K (.ref C) "__init__" = some (some (.ref fI))
  tC : typeIn K (.ref fI) = some (.type "function")
  kC : keepIn K (.ref C) = true
  exC : subIn K (.ref C) (.type "BaseException") = some true
  veC : subIn K (.ref C) (.type "ValueError") = some true
  tyC : typeIn K (.ref C) = some (.type "type")
  hdC : hasDictIn K C = true
  sub : mroIn K C (.ref C) = some true
  sup : ks_superIn K C C "__init__" = some (some (.builtin "ValueError.__init__"))
  op : nsIn K cStatics "thirdparty.any" = some none
  zs : nsIn K mainGlobals "super" = some none
  htop : (P.main.scope.names.lookup ("super" : Str)).isSome = false
  fn : ∃ (oc : Value) (od : Option Addr) (doc pm : Value) (an : Option Addr) (cda cc : Addr) (ct : Value) (osl : Array (Option Value)) (kk : Nat) (p1 p2 p3 p4 p5 p6 q1 q2 q3 q4 r1 r2 : Pos) (ccl cl : Value) (cdd cld : Option Addr) (vs : Array Value) (ccs csl : Array (Option Value)) (file : Str) (tf : Tok),
    K.lookup fI = some ⟨oc, od, .func (ksFn "__init__" qn (iA r1 r2) (iB msg kk p1 p2 p3 p4 p5 p6 q1 q2 q3 q4) iS .none .none doc pm an (.ref cda) ct cc), osl⟩ ∧ codeIn K (.ref cda) qn = true ∧
    K.lookup cda = some ⟨ccl, cdd, .fields vs, ccs⟩ ∧ vs[2]? = some (.str file tf) ∧ ((P.main.file : Str) == file) = true ∧
    K.lookup cc = some ⟨cl, cld, .cell (some (.ref C)), csl⟩ ∧ (p3.endLine == p5.line) = true
/-- what __init__ leaves of a fresh exception at x -/
structure InitEnd (h h' : Heap) (x C dx t1 : Addr) (v : Value) : Prop where
  keep : ∀ b o, b ≠ x → h.get? b = some o → h'.get? b = some o
  obj : h'.get? x = some { cls := .ref C, dict := some dx, data := .fields #[.ref t1, .none, .none, .none, .bool false, .none] }
  dbig : h.objs.size ≤ dx
  dne : dx ≠ x
  ns : h'.Ns1 dx (fun y => if y = "count" then some v else none)
theorem iS_nocell : ∀ y ∈ iS.names, y.2 ≠ .cell := by decide +kernel
theorem iS_loc (x v : Value) : ∀ y ∈ ([(PySem.Str.ofString "self", x), (PySem.Str.ofString "count", v)] : List (Str × Value)), iS.names.lookup y.1 = some .local := by
  intro y hy
  simp only [List.mem_cons, List.not_mem_nil, or_false] at hy
  rcases hy with rfl | rfl
  · exact (by decide +kernel : iS.names.lookup (PySem.Str.ofString "self") = some .local)
  · exact (by decide +kernel : iS.names.lookup (PySem.Str.ofString "count") = some .local)
/-- o.name(..) in a body that is known to run, the call's line told -/
theorem at_method {M : Model} {A : Around} {c : Code} {E : Value → Shared → Prop} {s : Shared} {env : Env} {o : Expr} {name : Str} {apos pos : Pos} {args : List Expr} {Q : Value → Shared → Prop}
    (hl : (apos.endLine == pos.line) = true) (hf : methodCallForm (args.length + ([] : List Keyword).length) (backTo pos (starEach args env)) (backToKw pos (keywordEach [] env)) = true)
    (h : _root_.PySem.wpAt M A c (attributeBase o name env (eval o env)) (fun ov s₁ => wpAny M A (getMethod ov name (do return (← importBound o env).getD true))
      (fun fx s₂ => wpAny M A (callWith pos fx.1 fx.2 (backTo pos (starEach args env)) (backToKw pos (keywordEach [] env))) Q E s₂) E s₁) E s) :
    _root_.PySem.wpAt M A c (eval (.Call (.Attribute o name apos) args [] pos) env) Q E s := by
  rw [arm_eval_Call]
  apply _root_.PySem.wpAt_bind
  apply _root_.PySem.wpAt_mono h
  · intro ov s₁ h₁
    apply _root_.PySem.wpAt_of_wpAny
    apply wpAny_bind
    apply wpAny_standAt
    have hp : methodCallPos true o env apos pos = pure pos := by
      unfold methodCallPos
      simp [hl]
    unfold methodCall
    rw [hf]
    apply wpAny_bind
    apply wpAny_holding
    apply wpAny_mono h₁
    · intro fx s₂ h₂
      exact wpAny_bind (wpAny_of_eq hp h₂)
    · intro _ _ z
      exact z
  · intro _ _ z
    exact z
section
variable {prog : Program} {w : World} {A : Around} {E : Value → Shared → Prop} {R : Result → Shared → Prop} {s : Shared} {K : Frag} {mg mb : Str → Option Value} {C fI : Addr} {qn msg : Str}
theorem sup_call {h : Heap} {g : Array GenState} {d : Drawn} {t : Nat} {os : OsState} {u e t0 : Addr} {one : Value} {Q : Value → Shared → Prop}
    {nm q : Str} {N : Addr} {bs bm sub : List Value} {sn : List Str} {ab : Bool} {col : Option Bool} {dd : Option Addr} {k0 k1 k2 k3 k5 : Option Value}
    (hC : h.get? C = some (excClassObj nm q C N bs bm true sn sub ab col dd k0 k1 k2 k3 k5 "ValueError.__new__")) (he : h.get? e = some (excO C t0)) (hu : h.get? u = some (kxs_mw "ValueError.__init__" e))
    (hq : ∀ h' t1, (∀ b o, b ≠ e → h.get? b = some o → h'.get? b = some o) → h'.get? e = some (excO C t1) → Q .none ⟨h', g, d, t, os⟩) :
    wpAny (model prog w) A (call (.ref u) [one]) Q E ⟨h, g, d, t, os⟩ := by
  refine wpAny_call (codeAny_of_tree (show wpAny _ (Around.in1 _) (callAny (.ref u) ⟨[one], []⟩) _ _ _ from ?_))
  have e1 : (Value.type "method-wrapper" == Value.type "method" || Value.type "method-wrapper" == Value.type "builtin_function_or_method" || Value.type "method-wrapper" == Value.type "method-wrapper") = true := by decide
  simp only [callAny]
  refine wpAny_bind (m := load u) (wpAny_load hu ?_)
  simp only [kxs_mw, e1, if_true]
  refine (KFB.if_so (by decide) (wpAny_bind (check_bound_init F.excBase_ValueError.toExcCallFacts hC he rfl ?_)))
  refine (wpAny_bind (wpAny_pure (wpAny_pure (And.intro (plainId_quiet F.excBase_ValueError.init.plain _) (codeAny_builtin F.excBase_ValueError.initEntry ?_)))))
  have lz : [one].length ≤ sizeLine := by
    rw [sizeLine_eq]
    exact (by decide : 1 ≤ 16777216)
  exact exc_init_tree (cls := .ref C) (t0 := t0) (dv := none) (c2 := .none) (c3 := .none) (b4 := .bool false) he lz (fun h₄ k₄ hx₄ _ => hq h₄ _ k₄ hx₄)
theorem err_init (T : ErrTxt prog K C fI qn msg) {x t0 : Addr} {v : Value} (X : K.In s.heap) (lim : s.heap.NoLimit) (gl : s.heap.Ns mainGlobals mg) (bl : s.heap.Ns builtinsNs mb)
    (bb : ∀ x : Str, x ≠ "__name__" → mb x = bootBuiltins x) (hx : s.heap.get? x = some (excO C t0)) (hnx : K.lookup x = none) (room : A.depth < recursionLimit)
    (hq : ∀ h' tk dx t1, InitEnd s.heap h' x C dx t1 v → R (.ok (.ret .none)) { s with heap := h', toks := tk }) :
    codeAny (model prog w) A (.call (.ref fI) ⟨[.ref x, v], []⟩) R s := by
  obtain ⟨oc, od, doc, pm, an, cda, cc, ct, osl, kk, p1, p2, p3, p4, p5, p6, q1, q2, q3, q4, r1, r2, ccl, cl, cdd, cld, vs, ccs, csl, file, tf, ho, hcd, hcode, hvs, hfile, hcell, hline⟩ := T.fn
  obtain ⟨nm, q, N, bs, bm, sn, sub, ab, col, dd, k0, k1, k2, k3, k5, hC, hbm⟩ := T.cls
  have hzs := mg_none_of X gl T.zs
  obtain ⟨hp, g, dr, tk, os⟩ := s
  refine ks_codeAny_call_defAt (binds := [("self", .ref x), ("count", v)]) room (X _ _ ho) rfl lim (codeRec_of X hcd) rfl (BindsTo.of_eq (by first | rfl | with_unfolding_all rfl)) iS_nocell (iS_loc _ _) (fun h₁ hns k₁ => ?_) rfl rfl rfl
  have X₁ : K.In h₁ := X.keeps k₁
  have hx₁ := k₁ _ _ hx
  refine ks_wpAt_execs_cons (ks_wpAt_Expr_any (at_method hline (by first | rfl | with_unfolding_all rfl) ?_))
  refine ks_wpAt_super_base rfl rfl (by decide) rfl (X₁ _ _ ho) rfl rfl rfl (X₁ _ _ hcode) rfl hvs hfile T.htop ?_
  refine ks_loadName_global rfl rfl (loadGlobal_builtin (gl.keeps k₁) hzs (bl.keeps k₁) ((bb _ (by decide +kernel)).trans (by decide +kernel : bootBuiltins "super" = some (.type "super"))) ⟨rfl, ?_⟩)
  refine wpAny_loadName_free rfl rfl rfl ⟨_, X₁ _ _ hcell, rfl⟩ ?_
  refine wpAny_loadName_local rfl rfl hns (v := .ref x) (by first | rfl | with_unfolding_all rfl) ?_
  refine ks_wpAny_isType_cls (X₁ _ _ hC) rfl ⟨rfl, ?_⟩
  refine ks_wpAny_call_super (X₁ _ _ hC) rfl hx₁ rfl (fun c e => nomatch e) (looks_mroIn X₁ T.sub) (fun h₂ e₂ k₂ => ?_)
  have X₂ : K.In h₂ := X₁.keeps k₂
  have hx₂ := k₂ _ _ hx₁
  have I₂ : InstAt h₂ x (excO C t0) C none := ⟨hx₂, rfl, rfl, trivial⟩
  have hcl : clsIn K C = some { name := nm, bases := bs, mro := .ref C :: bm, ns := N, qualname := q, hasDict := true, slotNames := sn, subclasses := sub, abstract := ab, collection := col, hasDel := false } := by
    unfold clsIn
    rw [hC]
    all_goals rfl
  have hm := T.sup
  unfold ks_superIn at hm
  rw [hcl] at hm
  have hI : Looks (model prog w) h₂ (isInstance (.ref x) (.type "ValueError")) true := I₂.type.andThen (looks_subIn X₂ T.veC)
  have hxC : x ≠ C := fun z => by
    rw [z, hC] at hnx
    cases hnx
  refine kxs_getMethod kxs_ValueError e₂ (looks_opaque X₂ T.op) (l₀ := .ref C :: bm) ?_ rfl X₂ hm hI hxC (by decide +kernel) ?_
  · exact fun A Q E s k q => wpAny_bind ((looks_clsIn X₂ hcl) A _ E s k (wpAny_pure q))
  have hu : (h₂.push (kxs_mw "ValueError.__init__" x)).get? h₂.objs.size = some (kxs_mw "ValueError.__init__" x) := Heap.get?_push_at rfl rfl
  have k₃ : ∀ b o, h₂.get? b = some o → (h₂.push (kxs_mw "ValueError.__init__" x)).get? b = some o := fun b o e => Heap.get?_push_of_some _ e
  have X₃ : K.In (h₂.push (kxs_mw "ValueError.__init__" x)) := X₂.keeps k₃
  have hx₃ := k₃ _ _ hx₂
  refine kxs_callWith (i := "ValueError.__init__") (x := x) (by rfl) (evalArgs_plain ?_)
  refine Calls.spliced_cons (Calls.Constant_str (k := kk) (pos := p4) ?_)
  refine Calls.spliced_nil ⟨hu, ?_⟩
  refine sup_call (X₃ _ _ hC) hx₃ hu (fun h₄ t1 k₄ hx₄ => ?_)
  -- self.found = found
  have X₄ : K.In h₄ := fun a o e => k₄ a o (fun z => by rw [z, hnx] at e; cases e) (X₃ a o e)
  have hLx : hp.objs.size ≠ x := Nat.ne_of_gt (Heap.lt_size hx)
  have hn₄ := hns
  obtain ⟨oL, es, ep, eL, rL⟩ := hn₄
  have hn₄ : h₄.Ns hp.objs.size _ := ⟨oL, es, ep, k₄ _ _ hLx (k₃ _ _ (k₂ _ _ eL)), rL⟩
  have big : hp.objs.size < h₄.objs.size := hn₄.lt
  show _root_.PySem.wpAt _ _ _ (execs _ _) _ _ _
  refine _root_.PySem.wpAt_of_wpAny (wpAny_execs_cons (plainObj_wpAny_Assign_Attribute ?_))
  refine wpAny_Name (wpAny_loadName_local rfl rfl hn₄ (v := v) (by first | rfl | with_unfolding_all rfl) ?_) (by decide)
  refine wpAny_Name (wpAny_loadName_local rfl rfl hn₄ (v := .ref x) (by first | rfl | with_unfolding_all rfl) ?_) (by decide)
  refine set_plain X₄ (ox := excO C t1) (od := none) ⟨hx₄, rfl, rfl, trivial⟩ T.sa ?_
  refine HandSPX.exc_osa X₄ hx₄ hcl (show refsVE (.ref C :: bm) = true from hbm) rfl T.noN (fun h₅ tk₅ dx k₅ dn dne hx₅ hn₅ => ?_)
  show wpAny _ _ (execs _ _) _ _ _
  exact wpAny_execs_nil (hq h₅ tk₅ dx t1 ⟨fun b o hb e => k₅ b o hb (k₄ b o hb (k₃ b o (k₂ b o (k₁ b o e)))), hx₅, Nat.le_trans (Nat.le_of_lt big) dn, dne, hn₅⟩)
/-- an error that was made: its own dict d holds the thing -/
structure OwnMade (h h' : Heap) (e C d : Addr) (v : Value) : Prop where
  keep : ∀ b o, h.get? b = some o → h'.get? b = some o
  new : h.objs.size ≤ e
  obj : ∃ oe vs, h'.get? e = some oe ∧ oe.cls = .ref C ∧ oe.dict = some d ∧ oe.data = .fields vs ∧ vs[1]? = some .none
  dbig : h.objs.size ≤ d
  dne : d ≠ e
  ns : h'.Ns1 d (fun y => if y = "count" then some v else none)
theorem one_size (v : Value) : [v].length ≤ sizeLine := by
  rw [sizeLine_eq]
  exact (by decide : 1 ≤ 16777216)
theorem err_made (T : ErrTxt prog K C fI qn msg) {v : Value} (X : K.In s.heap) (lim : s.heap.NoLimit) (gl : s.heap.Ns mainGlobals mg) (bl : s.heap.Ns builtinsNs mb)
    (bb : ∀ x : Str, x ≠ "__name__" → mb x = bootBuiltins x) (room : A.depth + 1 < recursionLimit)
    (hq : ∀ h' tk e d, OwnMade s.heap h' e C d v → R (.ok (.ret (.ref e))) { s with heap := h', toks := tk }) :
    codeAny (model prog w) A (.call (.ref C) ⟨[v], []⟩) R s := by
  obtain ⟨nm, q, N, bs, bm, sn, sub, ab, col, dd, k0, k1, k2, k3, k5, hC, hbm⟩ := T.cls
  obtain ⟨hp, g, dr, tk, os⟩ := s
  have k : ∀ b o, hp.get? b = some o → ((hp.push (kdv_tup [v])).push (excO C hp.objs.size)).get? b = some o := fun b o e => Heap.get?_push_of_some _ (Heap.get?_push_of_some _ e)
  have hget : ((hp.push (kdv_tup [v])).push (excO C hp.objs.size)).get? (hp.objs.size + 1) = some (excO C hp.objs.size) := by heap_get
  have hnx : K.lookup (hp.objs.size + 1) = none := by
    cases e : K.lookup (hp.objs.size + 1) with
    | none => rfl
    | some o =>
      have z : hp.get? (hp.objs.size + 1) = some o := X _ _ e
      exact absurd (Nat.lt_of_succ_lt (Heap.lt_size z)) (Nat.lt_irrefl _)
  refine HandSPX.call_own F.excBase_ValueError (fun X => refsVE_contains X bm hbm) (X _ _ hC) (looks_findIn X T.iC) (fun self => bind_fn X self T.tC) (one_size v) ?_
  refine err_init (s := ⟨(hp.push (kdv_tup [v])).push (excO C hp.objs.size), g, dr, tk, os⟩) T (X.keeps k) (lim.keeps k) (gl.keeps k) (bl.keeps k) bb hget hnx ?_ fun h' tk' dx t1 ⟨k', hx, dn, dne, hns⟩ => ?_
  · show A.depth + 1 < recursionLimit
    exact room
  · have old : ∀ b o, hp.get? b = some o → h'.get? b = some o := fun b o e => k' b o (Nat.ne_of_lt (Nat.lt_succ_of_lt (Heap.lt_size e))) (k b o e)
    have z : hp.objs.size + 1 + 1 ≤ dx := by
      first
        | (simpa only [Heap.size_push] using dn)
        | exact dn
        | (have q := dn; rw [Heap.size_push, Heap.size_push] at q; exact q)
    exact ⟨rfl, hq h' tk' (hp.objs.size + 1) dx ⟨old, Nat.le_succ _, ⟨_, _, hx, rfl, rfl, rfl, rfl⟩, Nat.le_trans (Nat.le_trans (Nat.le_succ _) (Nat.le_succ _)) z, dne, hns⟩⟩
end
end Gc
namespace Gc
open PySem PySem.Spec PyProof.Rows L2
theorem relO_f {v : V} {v' : Value} (r : RelV v v') (f : Str) : RelO (List.lookup f [(("count" : Str), v)]) (if f = "count" then some v' else none) := by
  by_cases hw : f = "count"
  · subst hw
    rw [if_pos rfl]
    have q : List.lookup ("count" : Str) [(("count" : Str), v)] = some v := by simp [List.lookup]
    rw [q]
    exact r
  · rw [if_neg hw]
    have qw : (f == ("count" : Str)) = false := by simpa using hw
    have q2 : List.lookup f [(("count" : Str), v)] = none := by simp [List.lookup, qw]
    rw [q2]
    trivial
section
variable {X : Cx} {C fI : Addr} {qn msg cn : Str}
/-- E(e) -/
def tMkE (C : Addr) (ta : TA) : L2.St → Hp → XK → Prop := fun σ H Q => ta σ H fun vs H1 => ∃ v, vs = [v] ∧ ∀ d, H1 d = none → Q (.ref C) (some d) (upd H1 d (.xd [(("count" : Str), v)]))
theorem pmk_err {a : Expr} {ta : TA} {p pos : Pos} {k : Nat} (T : ErrTxt X.prog X.K C fI qn msg) (gC : X.mg cn = some (.ref C)) (hr : Room k X.A) (ha : PA X [a] ta) (hg : Gl X cn)
    (hdb : (cn == ("__debug__" : Str)) = false := by decide)
    (he : starEach (a :: []) X.env = (false, eval a X.env) :: starEach [] X.env := by rfl) (hpl : (backTo pos (starEach [] X.env)).any (·.1) = false := by rfl) :
    PMk X (.Call (.Name cn p) [a] [] pos) (tMkE C ta) := by
  intro pins s σ H Q I h
  apply wpAny_Call_Name_kw
  apply ld_glob I hg gC (hd := hdb)
  refine PySem.W.callWith_K (h₀ := X.base) I.ok.mod.kin T.kC (thn (ha.run pos pins s σ H _ I h) ?_) he hpl
  rintro us s1 ⟨vs, H1, I1, r1, v, ev, q1⟩
  subst ev
  refine ⟨I1.kIn, ?_⟩
  cases r1 with
  | cons rv rn =>
    rename_i v' us'
    cases rn
    show wpAny _ _ (call (.ref C) [v']) _ _ _
    have hlim := I1.nolimit
    have hgl := I1.mod.glob.keeps I1.bk
    obtain ⟨mb, hbl0, hbb⟩ := I1.mod.blt
    have hbl := hbl0.keeps I1.bk
    obtain ⟨hp, g, dr, tk, os⟩ := s1
    refine wpAny_call (err_made T I1.kIn hlim hgl hbl hbb (by have := hr.dp; omega) fun h' tk' e d M => ?_)
    show MkP X pins σ Q (.ref e) ⟨h', g, dr, tk', os⟩
    obtain ⟨oe, fv, hoe, hc, hd, hdat, h1⟩ := M.obj
    have hns := M.ns
    obtain ⟨G', g1, g2⟩ := restrict h' fun b => decide (b ≠ e)
    have gk : ∀ b, b ≠ e → G'.get? b = h'.get? b := fun b hb => g1 b (decide_eq_true hb)
    have ge : G'.get? e = none := g2 e (by simp)
    have old : ∀ b o, hp.get? b = some o → G'.get? b = some o := fun b o q => (gk b (Nat.ne_of_lt (Nat.lt_of_lt_of_le (Heap.lt_size q) M.new))).trans (M.keep b o q)
    have ob : ObjOk X.prog X.w (upd H1 d (.xd [(("count" : Str), v)])) G' d (.xd [(("count" : Str), v)]) :=
      ⟨_, hns.at (fun o q => (gk d M.dne).trans q), fun f => relO_f rv f⟩
    have J : Inv X pins σ (upd H1 d (.xd [(("count" : Str), v)])) ⟨G', g, dr, tk', os⟩ := I1.laid (t' := tk') old M.dbig ob
    refine ⟨e, oe, fv, ⟨G', g, dr, tk', os⟩, _, .ref C, some d, rfl, J, fun b o q => ?_, ge, hoe, ⟨hc, hd⟩, hdat, h1, ?_, rfl, I1.bare, raises_own T.exC T.tyC, q1 d (I1.hok.fresh M.dbig)⟩
    · by_cases hb : b = e
      · have q' : G'.get? b = some o := q
        rw [hb, ge] at q'
        cases q'
      · exact (gk b hb).symm.trans q
    · rw [upd_ne (Ne.symm M.dne)]
      exact I1.hok.fresh M.new
/-- raise E(e) -/
def tRaiseE (C : Addr) (W : WX) (ta : TA) : TS := fun _ σ H => tMkE C ta σ H fun cls d H' => W cls d σ H'
theorem ps_raiseE {a : Expr} {ta : TA} {W : WX} {p pos pos2 : Pos} {k : Nat} (hc : X.calm = true) (T : ErrTxt X.prog X.K C fI qn msg) (gC : X.mg cn = some (.ref C)) (hr : Room k X.A) (tk : Takes X W) (ha : PA X [a] ta) (hg : Gl X cn)
    (hdb : (cn == ("__debug__" : Str)) = false := by decide)
    (he : starEach (a :: []) X.env = (false, eval a X.env) :: starEach [] X.env := by rfl) (hpl : (backTo pos (starEach [] X.env)).any (·.1) = false := by rfl) :
    PS X (.Raise (some (.Call (.Name cn p) [a] [] pos)) none pos2) (tRaiseE C W ta) := ps_raise hc tk (pmk_err T gC hr ha hg hdb he hpl)
/-- e.found, e the exception that the suite holds (at a; its class cls, its dict d) -/
def tFound (C : Addr) (a : Addr) (cls : Value) (d : Option Addr) (te : TE) : TE := fun σ H Q => te σ H fun x H1 => x = .ref a ∧ cls = .ref C ∧ ∃ (dd : Addr) (v : V), d = some dd ∧ H1 dd = some (.xd [(("count" : Str), v)]) ∧ Q v H1
theorem pe_found {a : Addr} {oe : Obj} {cls : Value} {d : Option Addr} {pn : List (Addr × Obj)} {e : Expr} {te : TE} {pos : Pos} (T : ErrTxt X.prog X.K C fI qn msg) (hz : Zc cls d oe) (hf : ∃ vs, oe.data = .fields vs) (he : PE (X.suite a ((a, oe) :: pn)) e te)
    (hb : attributeBase e "count" X.env (eval e X.env) = eval e X.env := by rfl) :
    PE (X.suite a ((a, oe) :: pn)) (.Attribute e "count" pos) (tFound C a cls d te) := by
  constructor
  intro pins s σ H Q I h
  refine attr_of hb (thn (he.run pins s σ H _ I h) ?_)
  rintro u s1 ⟨x, H1, I1, rx, ex, ec, dd, v, ed, ea, q⟩
  subst ex
  obtain rfl : u = Value.ref a := rx
  subst ec
  subst ed
  have ha := (I1.pin (a, oe) (List.mem_append_left _ List.mem_cons_self)).1
  obtain ⟨vs, hd⟩ := hf
  have hx : ObjOk X.prog X.w H1 s1.heap dd (.xd [(("count" : Str), v)]) := I1.hok dd _ ea
  obtain ⟨mA, hns, hr⟩ := hx
  obtain ⟨od, ho, hl⟩ := lookIn_ns hns
  have l : List.lookup ("count" : Str) [(("count" : Str), v)] = some v := by simp [List.lookup]
  obtain ⟨u, hu, ru⟩ := RelO.some_of (v := v) (o := mA "count") (by rw [← l]; exact hr "count")
  have J : PySem.W.InstAt s1.heap a oe C (some od) := by
    refine ⟨ha, hz.1, ?_, by rw [hz.2]; exact ho⟩
    unfold PySem.W.notCls
    rw [hd]
    all_goals rfl
  exact HandSPX.exc_get I1.kIn J T.ga T.gg T.exC (PySem.W.findObj_own T.hdC T.noN rfl (by rw [hl, hu])) (handed_of ru) ⟨v, H1, I1.tok _, ru, q⟩
/-- what a class of errors must say so that isinstance asks it -/
structure IsTxt (K : PySem.W.Frag) (C : Addr) : Prop where
  ha : PySem.W.findIn K (.ref C) "__class__" = some (some (.builtin "object.__class__"))
  hn : PySem.W.specialIn K (.builtin "object.__class__") "__get__" = some (some (.builtin "getset_descriptor.__get__"))
  ht : PySem.W.takesIn K (.builtin "object.__class__") = some true
  hm : PySem.W.mroIn K C (.type "object") = some true
/-- isinstance(e, c), e the exception that the suite holds, with its own dict -/
def rIsF (K : PySem.W.Frag) (C a : Addr) (cls : Value) (d : Option Addr) : List V → Hp → VK → Prop := fun xs H Q => ∃ (c : V) (cv : Value) (b : Bool) (dd : Addr) (v : V), xs = [.ref a, c] ∧ cls = .ref C ∧ d = some dd ∧
  H dd = some (.xd [(("count" : Str), v)]) ∧ ClsV c cv ∧ PySem.W.kitOne K (.ref C) cv = some b ∧ Q (.bl b) H
theorem call_isF {a : Addr} {oe : Obj} {cls : Value} {d : Option Addr} {pn : List (Addr × Obj)} (T : ErrTxt X.prog X.K C fI qn msg) (S : IsTxt X.K C) (hz : Zc cls d oe) (hf : ∃ vs, oe.data = .fields vs) :
    CallR (X.suite a ((a, oe) :: pn)) (.builtin "isinstance") (rIsF X.K C a cls d) := by
  intro pins s σ H xs us Q I r h
  obtain ⟨c, cv, b, dd, v, rfl, rfl, rfl, ea, hcv, e, q⟩ := h
  obtain ⟨u1, u2, rfl, r1, r2⟩ := vals2 r
  cases (show u1 = Value.ref a from r1)
  have e2 := hcv.eq r2
  subst e2
  have ha := (I.pin (a, oe) (List.mem_append_left _ List.mem_cons_self)).1
  obtain ⟨vs, hd⟩ := hf
  have hx : ObjOk X.prog X.w H s.heap dd (.xd [(("count" : Str), v)]) := I.hok dd _ ea
  obtain ⟨mA, hns, _⟩ := hx
  obtain ⟨od, ho, _⟩ := lookIn_ns hns
  have J : PySem.W.InstAt s.heap a oe C (some od) := by
    refine ⟨ha, hz.1, ?_, by rw [hz.2]; exact ho⟩
    unfold PySem.W.notCls
    rw [hd]
    all_goals rfl
  have hcl : (PySem.W.clsIn X.K C).isSome = true := by
    obtain ⟨cd, hc, _⟩ := PySem.W.any_some T.hdC
    rw [hc]
    rfl
  exact PySem.W.kia_one (PySem.W.kitx_exc hcl T.ga T.gg T.exC S.ha S.hn S.ht S.hm) I.kIn J e (fun z => nomatch z) fun tk => ⟨.bl b, H, I.kept (t' := tk) fun _ _ z => z, rfl, q⟩
end
end Gc
set_option maxHeartbeats 1000000
namespace K18
open PySem PySem.Spec PyProof.Rows L2 Gd Gx
open C8 (clsBody Met pe_mt pe_mt0)
/-- every tuple stays -/
def KT (H H' : Hp) : Prop := ∀ (c : Addr) (ys : List V), H c = some (.tup ys) → H' c = some (.tup ys)
theorem KT.of {H H' : Hp} (s : Same H H') : KT H H' := fun c ys z => s c _ z
theorem KT.trans {H1 H2 H3 : Hp} (a : KT H1 H2) (b : KT H2 H3) : KT H1 H3 := fun c ys z => b c ys (a c ys z)
theorem numOk {n : Nat} (h : n ≤ 1024) : Okd (.int (n : Nat)) 50 0 := okInt ⟨by
  have : (-(10 : Int) ^ 40) ≤ 0 := by decide
  omega, by
  have : (1024 : Int) ≤ 10 ^ 40 := by decide
  omega⟩
theorem yesI {σ : L2.St} {H : Hp} {A B : Hp → Prop} (h : A H) : tYes σ H (fun b H3 => if b = true then A H3 else B H3) := by
  show (if true = true then A H else B H)
  rw [if_pos rfl]
  exact h
theorem inl_end {α : Type} (l : List α) (x : α) : inl l l.length x = l ++ [x] := by
  unfold inl
  rw [List.take_length, List.drop_length, List.append_nil]
theorem lt_at {ms : List Nat} {i k : Nat} (h : ms[i]? = some k) : i < ms.length := by
  by_cases z : i < ms.length
  · exact z
  · rw [List.getElem?_eq_none (by omega)] at h
    cases h
end K18
set_option maxHeartbeats 1000000
namespace K18
open PySem PySem.Spec PyProof.Rows L2 Gd Gx
open C8 (clsBody Met pe_mt pe_mt0)
/-- a dict comprehension over what walks -/
theorem dc_it {J : It} {n : Nat} {G : Hp → Prop} {Y : Nat → Hp → V → Hp → Prop} (w : Walk J n G Y) {g : TG} {tt : TT} {tk tv : TE} {vs : List Nat} {σ : L2.St} {H1 : Hp} {D : Addr} {Qd : Hp → Prop} (Pv : Nat → Hp → Prop) (h0 : Pv 0 (upd H1 D (.dK []))) (hG : ∀ i H, i ≤ n → Pv i H → G H)
    (hs : ∀ i x H H', i < n → Pv i H → Y i H x H' → g x (wipe σ vs) H' fun σ2 H2 => wipe σ2 vs = wipe σ vs ∧ tt σ2 H2 fun b H3 =>
      if b = true then tk σ2 H3 fun y H4 => tv σ2 H4 fun z H5 => ∃ kvs k, y = kV k ∧ H5 D = some (.dK kvs) ∧ kvs.length < sizeLine ∧ Pv (i + 1) (upd H5 D (.dK (putK kvs k z))) else Pv (i + 1) H3) (hd : ∀ H, Pv n H → Qd H) :
    ∃ W : Nat → Nat → Hp → Prop, (∃ m, W 0 m (upd H1 D (.dK []))) ∧ ∀ i m H, W i m H →
      (J.stop i H ∧ Qd H) ∨ (J.go i H ∧ ∃ Nx : Hp → Prop, (∀ H', Nx H' → ∃ m', m' < m ∧ W (i + 1) m' H') ∧ ∀ x H', J.yld i H x H' → g x (wipe σ vs) H' fun σ2 H2 => wipe σ2 vs = wipe σ vs ∧ tt σ2 H2 fun b H3 =>
        if b = true then tk σ2 H3 fun y H4 => tv σ2 H4 fun z H5 => ∃ kvs k, y = kV k ∧ H5 D = some (.dK kvs) ∧ kvs.length < sizeLine ∧ Nx (upd H5 D (.dK (putK kvs k z))) else Nx H3) := by
  refine ⟨fun i m H => m = n - i ∧ i ≤ n ∧ Pv i H, ⟨n, by simp, Nat.zero_le _, h0⟩, ?_⟩
  rintro i m H ⟨rfl, hi, p⟩
  have q := hG i H hi p
  by_cases hlt : i < n
  · exact .inr ⟨w.goes i H hlt q, Pv (i + 1), fun H' p' => ⟨n - (i + 1), by omega, rfl, hlt, p'⟩, fun x H' y => hs i x H H' hlt p (w.yields i H x H' hlt q y)⟩
  · have e : i = n := by omega
    subst e
    exact .inl ⟨w.stops H q, hd H p⟩
/-- the class of tours -/
structure TouC (K : PySem.W.Frag) (C : Addr) : Prop where
  cl : Cls K C
  n_order : NoAttr K C "_order"
  n_marks : NoAttr K C "_marks"
def tfields : List Str := ["_order", "_marks"]
/-- the list of the marks of n makes -/
structure PrX (H : Hp) (xs : List V) (n : Nat) : Prop where
  len : xs.length = n
  at_ : ∀ j, j < n → ∃ t, xs[j]? = some (.ref t) ∧ H t = some (.tup [num (2 * j), num (2 * j + 1)])
theorem PrX.kp {H H' : Hp} {xs : List V} {n : Nat} (h : PrX H xs n) (k : KT H H') : PrX H' xs n := ⟨h.len, fun j hj => by
  obtain ⟨t, e1, e2⟩ := h.at_ j hj
  exact ⟨t, e1, k t _ e2⟩⟩
theorem OrdA.cutT {N : Addr → Prop} {H : Hp} {o C : Addr} {ms ls : List Nat} {gv ts : Nat} (r : OrdA N H o C ms ls gv ts) : OrdA (fun c => N c ∧ H c ≠ none ∧ ∀ ys, H c ≠ some (.tup ys)) H o C ms ls gv ts := by
  obtain ⟨dx, m, d, fs, kvs, e1, l1, l2, l3, l4, nl, e2, e3, dc, lf, No, Nm, Nd⟩ := r.ex
  refine ⟨⟨dx, m, d, fs, kvs, e1, l1, l2, l3, l4, nl, e2, e3, dc, lf, ⟨No, ?_, fun ys => ?_⟩, ⟨Nm, ?_, fun ys => ?_⟩, ⟨Nd, ?_, fun ys => ?_⟩⟩, r.ok⟩
  · rw [e1]
    simp
  · rw [e1]
    simp
  · rw [e2]
    simp
  · rw [e2]
    simp
  · rw [e3]
    simp
  · rw [e3]
    simp
/-- a tour at t, N all that is its own -/
structure TouA (N : Addr → Prop) (H : Hp) (t CT CO : Addr) (n : Nat) (ms ls : List Nat) (ts : Nat) : Prop where
  ex : ∃ (dx o r : Addr) (fs : List (Str × V)) (xs : List V) (No : Addr → Prop), H t = some (.ins CT dx fs) ∧ fs.lookup ("_order" : Str) = some (.ref o) ∧ fs.lookup ("_marks" : Str) = some (.ref r) ∧ (∀ f, f ∉ tfields → fs.lookup f = none) ∧ fs.length ≤ 100 ∧
    H r = some (.lst xs) ∧ PrX H xs n ∧ OrdA No H o CO ms ls (2 * n) ts ∧ (∀ c, No c → N c) ∧ N t ∧ N r ∧ ¬ No t ∧ ¬ No r ∧ (∀ c ys, H c = some (.tup ys) → ¬ No c) ∧ ∀ c, No c → H c ≠ none
  len : ms.length = 2 * n
  has : ∀ k, k < 2 * n → ∃ i : Nat, ms[i]? = some k
theorem TouA.mk' {N No : Addr → Prop} {H : Hp} {t CT CO dx o r : Addr} {fs : List (Str × V)} {xs : List V} {n : Nat} {ms ls : List Nat} {ts : Nat} (e1 : H t = some (.ins CT dx fs)) (l1 : fs.lookup ("_order" : Str) = some (.ref o)) (l2 : fs.lookup ("_marks" : Str) = some (.ref r)) (nl : ∀ f, f ∉ tfields → fs.lookup f = none) (lf : fs.length ≤ 100)
    (e2 : H r = some (.lst xs)) (px : PrX H xs n) (oa : OrdA No H o CO ms ls (2 * n) ts) (s : ∀ c, No c → H c ≠ none → N c) (Nt : N t) (Nr : N r) (nt : ¬ No t) (nr : ¬ No r) (len : ms.length = 2 * n) (has : ∀ k, k < 2 * n → ∃ i : Nat, ms[i]? = some k) : TouA N H t CT CO n ms ls ts :=
  ⟨⟨dx, o, r, fs, xs, _, e1, l1, l2, nl, lf, e2, px, oa.cutT, fun c h => s c h.1 h.2.1, Nt, Nr, fun h => nt h.1, fun h => nr h.1, fun c ys z h => h.2.2 ys z, fun c h => h.2.1⟩, len, has⟩
section
variable {N : Addr → Prop} {H H' : Hp} {t CT CO : Addr} {n : Nat} {ms ls : List Nat} {ts : Nat}
theorem TouA.kp (x : TouA N H t CT CO n ms ls ts) (k : ∀ c u, N c → H c = some u → H' c = some u) (kt : KT H H') : TouA N H' t CT CO n ms ls ts := by
  obtain ⟨dx, o, r, fs, xs, No, e1, l1, l2, nl, lf, e2, px, oa, s, Nt, Nr, nt, nr, ct, al⟩ := x.ex
  exact .mk' (k _ _ Nt e1) l1 l2 nl lf (k _ _ Nr e2) (px.kp kt) (oa.kp fun c u h z => k c u (s c h) z) (fun c h _ => s c h) Nt Nr nt nr x.len x.has
theorem TouA.same (x : TouA N H t CT CO n ms ls ts) (s : Same H H') : TouA N H' t CT CO n ms ls ts := x.kp (fun c u _ z => s c u z) (KT.of s)
theorem TouA.sub {M : Addr → Prop} (x : TouA N H t CT CO n ms ls ts) (s' : ∀ c, H c ≠ none → N c → M c) : TouA M H t CT CO n ms ls ts := by
  obtain ⟨dx, o, r, fs, xs, No, e1, l1, l2, nl, lf, e2, px, oa, s, Nt, Nr, nt, nr, ct, al⟩ := x.ex
  exact ⟨⟨dx, o, r, fs, xs, No, e1, l1, l2, nl, lf, e2, px, oa, fun c h => s' c (al c h) (s c h), s' _ (by rw [e1]; simp) Nt, s' _ (by rw [e2]; simp) Nr, nt, nr, ct, al⟩, x.len, x.has⟩
theorem TouA.ins (x : TouA N H t CT CO n ms ls ts) : ∃ dx fs, H t = some (.ins CT dx fs) ∧ (∀ f, f ∉ tfields → fs.lookup f = none) := by
  obtain ⟨dx, o, r, fs, xs, No, e1, l1, l2, nl, lf, e2, px, oa, s, Nt, Nr, nt, nr, ct, al⟩ := x.ex
  exact ⟨dx, fs, e1, nl⟩
theorem TouA.ok (x : TouA N H t CT CO n ms ls ts) : Ok ms ls (2 * n) := by
  obtain ⟨dx, o, r, fs, xs, No, e1, l1, l2, nl, lf, e2, px, oa, s, Nt, Nr, nt, nr, ct, al⟩ := x.ex
  exact oa.ok
end
/-- behind a make put on one whose coming is the i-th mark -/
def msG (ms : List Nat) (i : Nat) : List Nat := inl (inl ms (i + 1) ms.length) (i + 2) (ms.length + 1)
def lsO (ls : List Nat) (i : Nat) : List Nat := inl (readyL ls i) (i + 1) (midL ls i)
def lsG (ls : List Nat) (i : Nat) : List Nat := lsO (lsO ls i) (i + 1)
def tsG (ls : List Nat) (i ts : Nat) : Nat := readyT (lsO ls i) (i + 1) (readyT ls i ts)
theorem has_inl {ms : List Nat} {g k : Nat} (hk : k ≤ ms.length) (has : ∀ j, j < g → ∃ i : Nat, ms[i]? = some j) : ∀ j, j < g + 1 → ∃ i : Nat, (inl ms k g)[i]? = some j := fun j hj => by
  by_cases e : j = g
  · exact ⟨k, by rw [inl_at hk, if_neg (by omega), if_pos rfl, e]⟩
  · obtain ⟨i, hi⟩ := has j (by omega)
    by_cases z : i < k
    · exact ⟨i, by rw [inl_at hk, if_pos z]; exact hi⟩
    · exact ⟨i + 1, by rw [inl_at hk, if_neg (by omega), if_neg (by omega)]; exact hi⟩
theorem readyT_le (ls : List Nat) (i ts : Nat) : readyT ls i ts ≤ ts + 1 := by
  unfold readyT
  split <;> omega
theorem tsG_le (ls : List Nat) (i ts : Nat) : tsG ls i ts ≤ ts + 2 := by
  have := readyT_le ls i ts
  have := readyT_le (lsO ls i) (i + 1) (readyT ls i ts)
  unfold tsG
  omega
section
variable {P : Program} {w : World} {K : PySem.W.Frag} {mg : Str → Option Value} {base : Heap} {C CT CO : Addr}
def spTMany (CT CO : Addr) : Sp := fun vs H Q _ => ∃ (N : Addr → Prop) (t : Addr) (n : Nat) (ms ls : List Nat) (ts : Nat), vs = [.ref t] ∧ TouA N H t CT CO n ms ls ts ∧ Q (num n) H
theorem ok_tmany (T : Txt K mg) (OC : TouC K CT) (M : MAt K CT "many" "Tour.many" s_Tour_many ["self"]) : Met P w K mg base 1 CT "many" (spTMany CT CO) [] := by
  refine M.met OC.cl sc_Tour_many (fun vs H Q E h => ?_) (fun f cdv A outer s H vs Q E hr h => ?_)
  · obtain ⟨N, t, n, ms, ls, ts, rfl, _⟩ := h
    rfl
  · obtain ⟨N, t, n, ms, ls, ts, rfl, x, q⟩ := h
    obtain ⟨dx, o, r, fs, xs, No, e1, l1, l2, nl, lf, e2, px, oa, s, Nt, Nr, nt, nr, ct, al⟩ := x.ex
    refine ⟨_, (pss_one (ps_ret (pe_callB call_len (by rfl) T.b_len boot_len_ (pa_cons (pe_fld (pv 0) rfl) pa_nil)))), ?_⟩
    refine ⟨_, rfl, t, CT, dx, fs, .ref r, rfl, e1, OC.cl, OC.n_marks, l2, .ref r, xs.length, rfl, .inl ⟨_, SqL.of e2, rfl⟩, ?_⟩
    rw [px.len]
    exact q
def spTNeed (CT CO : Addr) : Sp := fun vs H Q _ => ∃ (N : Addr → Prop) (t : Addr) (n : Nat) (ms ls : List Nat) (ts k : Nat), vs = [.ref t, num k] ∧ TouA N H t CT CO n ms ls ts ∧ k < n ∧ Q .non H
theorem ok_tneed (T : Txt K mg) (OC : TouC K CT) (c_is_whole : C8.Cal P w K mg base 1 "is_whole" spWhI []) (m_many : Met P w K mg base 1 CT "many" (spTMany CT CO) []) (M : MAt K CT "_need_make" "Tour._need_make" s_Tour__need_make ["self", "make"]) : Met P w K mg base 2 CT "_need_make" (spTNeed CT CO) [] := by
  refine M.met OC.cl sc_Tour__need_make (fun vs H Q E h => ?_) (fun f cdv A outer s H vs Q E hr h => ?_)
  · obtain ⟨N, t, n, ms, ls, ts, k, rfl, _⟩ := h
    rfl
  · obtain ⟨N, t, n, ms, ls, ts, k, rfl, x, hk, q⟩ := h
    obtain ⟨dx, fs, e1, nl⟩ := x.ins
    refine ⟨_, (pss_one (ps_if (pt_not (pt_val (C8.pe_c c_is_whole hr (by decide) (by rfl) (pa_cons (pv 1) (pa_cons pe_int (pa_cons (pe_op op_sub (pe_mt0 m_many hr (by decide) (pv 0)) pe_int) pa_nil))))))
          (pss_one ps_never) pss_nil)), ?_⟩
    refine ⟨_, rfl, _, rfl, t, dx, fs, rfl, e1, nl _ (by decide), N, t, n, ms, ls, ts, rfl, x, _, _, rfl, rfl, (k : Int), 0, ((n : Nat) : Int) - 1, rfl, by omega, by omega, _, rfl, iteF q⟩
def spMOf (CT CO : Addr) : Sp := fun vs H Q _ => ∃ (N : Addr → Prop) (t : Addr) (n : Nat) (ms ls : List Nat) (ts k : Nat), vs = [.ref t, num k] ∧ TouA N H t CT CO n ms ls ts ∧ k < n ∧ ∀ p, H p = some (.tup [num (2 * k), num (2 * k + 1)]) → Q (.ref p) H
theorem ok_mof (T : Txt K mg) (OC : TouC K CT) (m__need_make : Met P w K mg base 2 CT "_need_make" (spTNeed CT CO) []) (M : MAt K CT "marks_of" "Tour.marks_of" s_Tour_marks_of ["self", "make"]) : Met P w K mg base 3 CT "marks_of" (spMOf CT CO) [] := by
  refine M.met OC.cl sc_Tour_marks_of (fun vs H Q E h => ?_) (fun f cdv A outer s H vs Q E hr h => ?_)
  · obtain ⟨N, t, n, ms, ls, ts, k, rfl, _⟩ := h
    rfl
  · obtain ⟨N, t, n, ms, ls, ts, k, rfl, x, hk, q⟩ := h
    obtain ⟨dx, o, r, fs, xs, No, e1, l1, l2, nl, lf, e2, px, oa, s, Nt, Nr, nt, nr, ct, al⟩ := x.ex
    obtain ⟨p, p1, p2⟩ := px.at_ k hk
    refine ⟨_, (pss_cons (ps_expr (pe_mt m__need_make hr (by decide) (pv 0) (pa_cons (pv 1) pa_nil)))
      (pss_one (ps_ret (pe_ix ix_list (pe_fld (pv 0) rfl) (pv 1) (fun _ _ => rfl))))), ?_⟩
    refine ⟨_, rfl, t, dx, fs, rfl, e1, nl _ (by decide), _, rfl, N, t, n, ms, ls, ts, k, rfl, x, hk, ?_⟩
    refine ⟨_, rfl, t, CT, dx, fs, .ref r, rfl, e1, OC.cl, OC.n_marks, l2, _, rfl, r, xs, _, _, rfl, rfl, SqL.of e2, atI_nat p1, q p p2⟩
def spGrow (CT CO : Addr) : Sp := fun vs H Q _ => ∃ (N : Addr → Prop) (t : Addr) (n : Nat) (ms ls : List Nat) (ts k i : Nat), vs = [.ref t, num k] ∧ TouA N H t CT CO n ms ls ts ∧ k < n ∧ n < 64 ∧ ms[i]? = some (2 * k) ∧
  ∀ H', TouA N H' t CT CO (n + 1) (msG ms i) (lsG ls i) (tsG ls i ts) → (∀ c u, ¬ N c → H c = some u → H' c = some u) → KT H H' → Q (num n) H'
theorem ok_grow (T : Txt K mg) (OC : TouC K CT) (m__need_make : Met P w K mg base 2 CT "_need_make" (spTNeed CT CO) []) (m_many : Met P w K mg base 1 CT "many" (spTMany CT CO) []) (m_behind : Met P w K mg base 3 CO "behind" (spBehind CO) [])
    (M : MAt K CT "grow" "Tour.grow" s_Tour_grow ["self", "make"]) : Met P w K mg base 4 CT "grow" (spGrow CT CO) [] := by
  refine M.met OC.cl sc_Tour_grow (fun vs H Q E h => ?_) (fun f cdv A outer s H vs Q E hr h => ?_)
  · obtain ⟨N, t, n, ms, ls, ts, k, i, rfl, _⟩ := h
    rfl
  · obtain ⟨N, t, n, ms, ls, ts, k, i, rfl, x, hk, hn, hi, q⟩ := h
    obtain ⟨dx, o, r, fs, xs, No, e1, l1, l2, nl, lf, e2, px, oa, sb, Nt, Nr, nt, nr, ct, al⟩ := x.ex
    have hlen := x.len
    have hlt := lt_at hi
    obtain ⟨p, p1, p2⟩ := px.at_ k hk
    obtain ⟨dy, fo, y1, yl⟩ := oa.ins
    refine ⟨_, (pss_cons (ps_expr (pe_mt m__need_make hr (by decide) (pv 0) (pa_cons (pv 1) pa_nil)))
      (pss_cons (ps_set (i := 2) sc_Tour_grow.nd rfl (Or.inl rfl) (pe_mt0 m_many hr (by decide) (pv 0)))
      (pss_cons (ps_if (pt_cmpR op_ge (pv 2) (pe_gi rfl T.g_MOST_MAKES) (nomark _))
          (pss_one ps_never) pss_nil)
      (pss_cons (ps_set (i := 3) sc_Tour_grow.nd rfl (Or.inl rfl) (pe_mt m_behind hr (by decide) (pe_fld (pv 0) rfl) (pa_cons (pe_ix ix_tup (pe_ix ix_list (pe_fld (pv 0) rfl) (pv 1) (fun _ _ => rfl)) pe_int (fun _ _ => rfl)) pa_nil)))
      (pss_cons (ps_set (i := 4) sc_Tour_grow.nd rfl (Or.inl rfl) (pe_mt m_behind hr (by decide) (pe_fld (pv 0) rfl) (pa_cons (pv 3) pa_nil)))
      (pss_cons (ps_expr (pe_bm PySem.F.plainAttrs_list PySem.F.slot_list_append PySem.F.type_list_append mt_append (pe_fld (pv 0) rfl) (pa_cons (pe_tup (pa_cons (pv 3) (pa_cons (pv 4) pa_nil))) pa_nil)))
      (pss_one (ps_ret (pv 2))))))))), ?_⟩
    refine ⟨_, rfl, t, dx, fs, rfl, e1, nl _ (by decide), _, rfl, N, t, n, ms, ls, ts, k, rfl, x, hk, ?_⟩
    refine ⟨_, rfl, t, dx, fs, rfl, e1, nl _ (by decide), N, t, n, ms, ls, ts, rfl, x, ?_⟩
    refine ⟨_, rfl, _, _, rfl, rfl, _, rfl, ?_⟩
    rw [decide_eq_false (by omega : ¬ ((64 : Int) ≤ ((n : Nat) : Int)))]
    refine iteF ?_
    refine ⟨_, rfl, t, CT, dx, fs, .ref o, rfl, e1, OC.cl, OC.n_order, l1, o, dy, fo, rfl, y1, yl _ (by decide), ?_⟩
    refine ⟨_, rfl, t, CT, dx, fs, .ref r, rfl, e1, OC.cl, OC.n_marks, l2, _, rfl, r, xs, _, _, rfl, rfl, SqL.of e2, atI_nat p1, p, _, _, num (2 * k), rfl, rfl, SqT.of p2, rfl, ?_⟩
    refine ⟨No, o, ms, ls, 2 * n, ts, i, 2 * k, rfl, oa, hi, by omega, by omega, fun H1 oa1 k1 => ?_⟩
    have t1 : KT H H1 := fun c ys z => k1 c _ (ct c ys z) z
    have e11 := k1 _ _ nt e1
    have e21 := k1 _ _ nr e2
    have ct1 : ∀ c ys, H1 c = some (.tup ys) → ¬ (No c ∧ H1 c ≠ none ∧ ∀ ys, H1 c ≠ some (.tup ys)) := fun c ys z h => h.2.2 ys z
    have oa1 := oa1.cutT
    obtain ⟨dy1, fo1, y11, yl1⟩ := oa1.ins
    refine ⟨_, rfl, t, CT, dx, fs, .ref o, rfl, e11, OC.cl, OC.n_order, l1, o, dy1, fo1, rfl, y11, yl1 _ (by decide), ?_⟩
    refine ⟨_, rfl, _, o, _, _, 2 * n + 1, _, i + 1, 2 * n, rfl, oa1, by rw [inl_at (by omega), if_neg (by omega), if_pos rfl], by rw [inl_len (by omega)]; omega, by omega, fun H2 oa2 k2 => ?_⟩
    have k12 : ∀ c u, ¬ No c → H1 c = some u → H2 c = some u := fun c u h z => k2 c u (fun e => h e.1) z
    have t2 : KT H H2 := t1.trans fun c ys z => k2 c _ (ct1 c ys z) z
    have e12 := k12 _ _ nt e11
    have e22 := k12 _ _ nr e21
    refine ⟨_, rfl, t, CT, dx, fs, .ref r, rfl, e12, OC.cl, OC.n_marks, l2, .inl ⟨rfl, _, SqL.of e22⟩, ?_⟩
    refine ⟨_, rfl, _, rfl, (by show 2 ≤ sizeLine; decide), fun p3 hp3 => ?_⟩
    have s3 := same_new (o := .tup [num (2 * n), num (2 * n + 1)]) hp3
    have f3 : (upd H2 p3 (.tup [num (2 * n), num (2 * n + 1)])) p3 = some (.tup [num (2 * n), num (2 * n + 1)]) := upd_same
    generalize upd H2 p3 (.tup [num (2 * n), num (2 * n + 1)]) = H3 at *
    have e13 := s3 _ _ e12
    have e23 := s3 _ _ e22
    have hpl := px.len
    refine ⟨r, _, _, rfl, rfl, e23, small1000 (by omega), ?_⟩
    have tr : t ≠ r := fun e => by rw [e, e2] at e1; cases e1
    have k4 : ∀ c u, c ≠ r → H3 c = some u → (upd H3 r (.lst (xs ++ [.ref p3]))) c = some u := fun c u hc z => by
      rw [upd_ne hc]
      exact z
    have r4 : (upd H3 r (.lst (xs ++ [.ref p3]))) r = some (.lst (xs ++ [.ref p3])) := upd_same
    generalize upd H3 r (.lst (xs ++ [.ref p3])) = H4 at *
    have kt4 : KT H3 H4 := fun c ys z => k4 c _ (fun e => by rw [e, e23] at z; cases z) z
    have t4 : KT H H4 := (t2.trans (KT.of s3)).trans kt4
    refine ⟨_, rfl, q H4 ?_ (fun c u hc z => k4 _ _ (fun e => hc (e ▸ Nr)) (s3 _ _ (k12 _ _ (fun e => hc (sb _ e)) (k1 _ _ (fun e => hc (sb _ e)) z)))) t4⟩
    have h2 : ms.length = 2 * n := hlen
    refine TouA.mk' (k4 _ _ tr e13) l1 l2 nl lf r4 ⟨by rw [List.length_append]; show xs.length + 1 = _; omega, fun j hj => ?_⟩ (?_ : OrdA (fun c => No c ∧ H1 c ≠ none ∧ ∀ ys, H1 c ≠ some (.tup ys)) H4 o CO (msG ms i) (lsG ls i) (2 * (n + 1)) (tsG ls i ts)) (fun c h _ => sb c h.1) Nt Nr (fun h => nt h.1) (fun h => nr h.1) ?_ ?_
    · by_cases e : j = n
      · subst e
        refine ⟨p3, ?_, kt4 _ _ f3⟩
        rw [List.getElem?_append_right (by omega), hpl, Nat.sub_self]
        rfl
      · obtain ⟨u, u1, u2⟩ := px.at_ j (by omega)
        exact ⟨u, by rw [List.getElem?_append_left (by omega)]; exact u1, t4 _ _ u2⟩
    · unfold msG lsG tsG lsO
      rw [h2]
      refine oa2.kp fun c u h z => k4 _ _ (fun e => nr (e ▸ h.1)) (s3 _ _ z)
    · unfold msG
      rw [inl_len (by rw [inl_len (by omega)]; omega), inl_len (by omega)]
      omega
    · unfold msG
      have a := has_inl (ms := ms) (g := 2 * n) (k := i + 1) (by omega) x.has
      have b := has_inl (ms := inl ms (i + 1) (2 * n)) (g := 2 * n + 1) (k := i + 2) (by rw [inl_len (by omega)]; omega) a
      rw [h2]
      exact fun k hk => b k (by omega)
def spTOrder (CT CO : Addr) : Sp := fun vs H Q _ => ∃ (N : Addr → Prop) (t : Addr) (n : Nat) (ms ls : List Nat) (ts : Nat), vs = [.ref t] ∧ TouA N H t CT CO n ms ls ts ∧
  ∀ (u : Addr) (H' : Hp) (N' : Addr → Prop), H u = none → OrdA N' H' u CO ms ls (2 * n) ts → (∀ c, N' c → H c = none) → Same H H' → Q (.ref u) H'
theorem ok_torder (T : Txt K mg) (OC : TouC K CT) (m_copied : Met P w K mg base 3 CO "copied" (spCopied CO) []) (M : MAt K CT "order" "Tour.order" s_Tour_order ["self"]) : Met P w K mg base 4 CT "order" (spTOrder CT CO) [] := by
  refine M.met OC.cl sc_Tour_order (fun vs H Q E h => ?_) (fun f cdv A outer s H vs Q E hr h => ?_)
  · obtain ⟨N, t, n, ms, ls, ts, rfl, _⟩ := h
    rfl
  · obtain ⟨N, t, n, ms, ls, ts, rfl, x, q⟩ := h
    obtain ⟨dx, o, r, fs, xs, No, e1, l1, l2, nl, lf, e2, px, oa, sb, Nt, Nr, nt, nr, ct, al⟩ := x.ex
    obtain ⟨dy, fo, y1, yl⟩ := oa.ins
    refine ⟨_, (pss_one (ps_ret (pe_mt0 m_copied hr (by decide) (pe_fld (pv 0) rfl)))), ?_⟩
    exact ⟨_, rfl, t, CT, dx, fs, .ref o, rfl, e1, OC.cl, OC.n_order, l1, o, dy, fo, rfl, y1, yl _ (by decide), No, o, ms, ls, 2 * n, ts, rfl, oa, q⟩
/-- the makes by one of their marks -/
def byL (e : Nat) (ms : List Nat) : List Nat := (ms.filter fun k => k % 2 == e).map (· / 2)
theorem byL_snoc (e : Nat) (ms : List Nat) (k : Nat) : byL e (ms ++ [k]) = if k % 2 = e then byL e ms ++ [k / 2] else byL e ms := by
  unfold byL
  rw [List.filter_append, List.map_append]
  by_cases h : k % 2 = e
  · rw [if_pos h]
    congr 1
    simp [List.filter, h]
  · rw [if_neg h]
    have hb : (k % 2 == e) = false := by simpa using h
    have : (List.filter (fun k => k % 2 == e) [k]) = [] := by simp [List.filter, hb]
    rw [this]
    simp
theorem byL_len (e : Nat) (ms : List Nat) : (byL e ms).length ≤ ms.length := by
  unfold byL
  rw [List.length_map]
  exact List.length_filter_le _ _
def spBy (CT CO : Addr) : Sp := fun vs H Q _ => ∃ (N : Addr → Prop) (t D : Addr) (n : Nat) (ms ls : List Nat) (ts e : Nat) (kvs : List (Key × V)), vs = [.ref t, .ref D] ∧ TouA N H t CT CO n ms ls ts ∧ H D = some (.dK kvs) ∧ n ≤ 64 ∧
  (∀ k, k < 2 * n → valV kvs (Sum.inl (k : Int)) = if k % 2 = e then some (num (k / 2)) else none) ∧ ∀ (p : Addr) (H' : Hp), H p = none → Same H H' → H' p = some (.lst ((byL e ms).map num)) → Q (.ref p) H'
theorem ok_by (T : Txt K mg) (OC : TouC K CT) (m_marks : Met P w K mg base 1 CO "marks" (spMarks CO) []) (M : MAt K CT "_makes_by" "Tour._makes_by" s_Tour__makes_by ["self", "makes"]) : Met P w K mg base 2 CT "_makes_by" (spBy CT CO) [] := by
  refine M.met OC.cl sc_Tour__makes_by (fun vs H Q E h => ?_) (fun f cdv A outer s H vs Q E hr h => ?_)
  · obtain ⟨N, t, D, n, ms, ls, ts, e, kvs, rfl, _⟩ := h
    rfl
  · obtain ⟨N, t, D, n, ms, ls, ts, e, kvs, rfl, x, hD, hn, hv, q⟩ := h
    obtain ⟨dx, o, r, fs, xs, No, e1, l1, l2, nl, lf, e2, px, oa, sb, Nt, Nr, nt, nr, ct, al⟩ := x.ex
    obtain ⟨dy, fo, y1, yl⟩ := oa.ins
    have hlen := x.len
    refine ⟨_, (pss_one (ps_ret (pe_lc (own := [("mark", 2)]) (g := gName 2) (tt := _) rfl sc_Tour__makes_by.nd (pi_list (pe_mt0 m_marks hr (by decide) (pe_fld (pv 0) rfl))) (blkOk_by (own := [("mark", 2)]) (N := ["self", "makes", "mark"]) (sc := defScope s_Tour__makes_by) (by decide +kernel)) (fun _ _ _ _ _ => pg_name (i := 2) sc_Tour__makes_by.nd rfl (Or.inl rfl)) (fun _ _ _ _ _ => (pts_one (pt_cmp (pc_din (hu_of hr) (pv 2) (pv 1))))) (fun _ _ _ _ _ => (pe_dget (hu_of hr) (pv 1) (pv 2) (fun _ _ => rfl)))))), ?_⟩
    refine ⟨_, rfl, t, CT, dx, fs, .ref o, rfl, e1, OC.cl, OC.n_order, l1, o, dy, fo, rfl, y1, yl _ (by decide), No, o, ms, ls, 2 * n, ts, rfl, oa, fun p H1 n1 s1 hp => ⟨p, rfl, ⟨_, SqL.of hp⟩, fun L hL => ?_⟩⟩
    refine lc_it (walk_list (xs := ms.map num)) (fun k H' => Same H1 H' ∧ H' L = some (.lst ((byL e (ms.take k)).map num))) ⟨same_new hL, upd_same⟩ (fun k H' _ hP => SqL.of (hP.1 _ _ hp)) (fun k x2 H2 H3 hk hP hY => ?_) (fun H2 hP => ?_)
    · obtain ⟨s2, d2⟩ := hP
      obtain ⟨rfl, hx⟩ := hY
      rw [List.length_map] at hk
      obtain ⟨m, hm⟩ : ∃ m, ms[k]? = some m := ⟨_, List.getElem?_eq_getElem hk⟩
      rw [List.getElem?_map, hm] at hx
      cases (show some (num m) = some x2 from hx)
      have hmlt := oa.ok.lt _ _ hm
      have hv2 := hv m hmlt
      have hD3 := s2 _ _ (s1 _ _ hD)
      have g : DGet H3 D (num m) (valV kvs (Sum.inl (m : Int))) := DGet.k (k := Sum.inl (m : Int)) hD3
      refine ⟨rfl, ?_⟩
      refine ⟨_, rfl, _, rfl, D, _, rfl, g, ?_⟩
      have bl := byL_len e (ms.take k)
      rw [List.length_take] at bl
      by_cases z : m % 2 = e
      · rw [hv2, if_pos z]
        refine ⟨true, rfl, iteT ?_⟩
        rw [hv2, if_pos z] at g
        refine ⟨_, rfl, _, rfl, D, _, rfl, g, _, d2, ?_, fun c u w => ?_, ?_⟩
        · rw [List.length_map]
          exact small1000 (by omega)
        · rw [upd_ne (ne_of_none w hL)]
          exact s2 _ _ w
        · rw [upd_same, List.take_add_one, hm]
          show some (HO.lst _) = some (.lst ((byL e (ms.take k ++ [m])).map num))
          rw [byL_snoc, if_pos z, List.map_append]
          rfl
      · rw [hv2, if_neg z]
        refine ⟨false, rfl, iteF ?_⟩
        refine ⟨s2, ?_⟩
        rw [d2, List.take_add_one, hm]
        show some (HO.lst _) = some (.lst ((byL e (ms.take k ++ [m])).map num))
        rw [byL_snoc, if_neg z]
    · obtain ⟨s2, d2⟩ := hP
      rw [List.take_of_length_le (by rw [List.length_map]; omega)] at d2
      exact q L H2 (none_of' s1 hL) (s1.trans s2) d2
def spCom (e : Nat) (CT CO : Addr) : Sp := fun vs H Q _ => ∃ (N : Addr → Prop) (t : Addr) (n : Nat) (ms ls : List Nat) (ts : Nat), vs = [.ref t] ∧ TouA N H t CT CO n ms ls ts ∧ n ≤ 64 ∧
  ∀ (p : Addr) (H' : Hp), H p = none → Same H H' → H' p = some (.lst ((byL e ms).map num)) → Q (.ref p) H'
/-- the dict of the makes by their marks, so far -/
structure ByD (kvs : List (Key × V)) (e i : Nat) : Prop where
  len : kvs.length ≤ i
  at_ : ∀ k : Nat, valV kvs (Sum.inl (k : Int)) = if k % 2 = e ∧ k / 2 < i then some (num (k / 2)) else none
theorem ByD.nil (e : Nat) : ByD [] e 0 := ⟨Nat.le_refl _, fun k => by rw [if_neg (by omega)]; rfl⟩
theorem ByD.put {kvs : List (Key × V)} {e i : Nat} (h : ByD kvs e i) (he : e < 2) : ByD (putK kvs (Sum.inl ((2 * i + e : Nat) : Int)) (num i)) e (i + 1) := by
  refine ⟨by have := length_putK kvs (Sum.inl ((2 * i + e : Nat) : Int) : Key) (num i); have := h.len; omega, fun k => ?_⟩
  rw [valV_put]
  by_cases z : k = 2 * i + e
  · subst z
    rw [if_pos rfl, if_pos (by omega)]
    congr 2
    omega
  · rw [if_neg (key_ne z), h.at_ k]
    by_cases y : k % 2 = e ∧ k / 2 < i
    · rw [if_pos y, if_pos (by omega)]
    · rw [if_neg y, if_neg (by omega)]
theorem ok_coming (T : Txt K mg) (OC : TouC K CT) (m__makes_by : Met P w K mg base 2 CT "_makes_by" (spBy CT CO) []) (M : MAt K CT "coming" "Tour.coming" s_Tour_coming ["self"]) : Met P w K mg base 3 CT "coming" (spCom 0 CT CO) [] := by
  refine M.met OC.cl sc_Tour_coming (fun vs H Q E h => ?_) (fun f cdv A outer s H vs Q E hr h => ?_)
  · obtain ⟨N, t, n, ms, ls, ts, rfl, _⟩ := h
    rfl
  · obtain ⟨N, t, n, ms, ls, ts, rfl, x, hn, q⟩ := h
    obtain ⟨dx, o, r, fs, xs, No, e1, l1, l2, nl, lf, e2, px, oa, sb, Nt, Nr, nt, nr, ct, al⟩ := x.ex
    have hpl := px.len
    refine ⟨_, (pss_one (ps_ret (pe_mt m__makes_by hr (by decide) (pv 0) (pa_cons (pe_dc (own := [("make", 1), ("marks", 2)]) (g := gTup K 2 (gCons (gName 1) (gCons (gName 2) gNil))) (tt := tYes) rfl sc_Tour_coming.nd (pi_enum (by rfl) T.b_enumerate (pa_cons (pe_fld (pv 0) rfl) pa_nil)) (blkOk_by (own := [("make", 1), ("marks", 2)]) (N := ["self", "make", "marks"]) (sc := defScope s_Tour_coming) (by decide +kernel)) (fun _ _ _ _ _ => by exact (pg_tup (by rfl) (pgs_cons (pg_name (i := 1) sc_Tour_coming.nd rfl (Or.inl rfl)) (pgs_cons (pg_name (i := 2) sc_Tour_coming.nd rfl (Or.inl rfl)) pgs_nil)))) (fun _ _ _ _ _ => pts_nil) (fun _ _ _ _ _ => (pe_ix (show IxR _ (rIxT K) from ix_tup) (pv 2) pe_int (fun _ _ => rfl))) (fun _ _ _ _ _ => (pv 1))) pa_nil)))), ?_⟩
    refine ⟨_, rfl, t, dx, fs, rfl, e1, nl _ (by decide), ?_⟩
    refine ⟨_, rfl, t, CT, dx, fs, .ref r, rfl, e1, OC.cl, OC.n_marks, l2, r, _, rfl, SqL.of e2, fun D hD => ?_⟩
    refine dc_it (walk_enum (xs := xs)) (fun i H' => Same H H' ∧ ∃ kvs, H' D = some (.dK kvs) ∧ ByD kvs 0 i) ⟨same_new hD, [], upd_same, .nil 0⟩ (fun i H' _ hP => SqL.of (hP.1 _ _ e2)) (fun i v H2 H3 hk hP hY => ?_) (fun H2 hP => ?_)
    · obtain ⟨s2, kvs, d2, bd⟩ := hP
      obtain ⟨Tp, u, v', rfl, hT, rfl, hu, hv⟩ := hY
      replace hu : some (V.int (i : Nat)) = some u := hu
      replace hv : xs[i]? = some v' := hv
      cases (Option.some.inj hu)
      obtain ⟨p, p1, p2⟩ := px.at_ i (by omega)
      rw [p1] at hv
      cases (Option.some.inj hv)
      have g5 := kep (u := .tup [V.int (i : Nat), .ref p]) (s2 _ _ p2) hT
      have d3 := kep (u := .tup [V.int (i : Nat), .ref p]) d2 hT
      have s3 : Same H (upd H2 Tp (.tup [V.int (i : Nat), .ref p])) := fun c z w => kep (s2 c z w) hT
      refine ⟨Tp, _, rfl, SqT.of upd_same, rfl, _, _, rfl, _, _, rfl, rfl, rfl, ?_⟩
      refine yesI ?_
      refine ⟨_, rfl, p, _, _, num (2 * i), rfl, rfl, SqT.of g5, rfl, ?_⟩
      refine ⟨_, rfl, kvs, Sum.inl ((2 * i + 0 : Nat) : Int), rfl, d3, small1000 (by have := bd.len; omega), fun c u z => ?_, _, upd_same, bd.put (by decide)⟩
      rw [upd_ne (ne_of_none z hD)]
      exact s3 _ _ z
    · obtain ⟨s2, kvs, d2, bd⟩ := hP
      rw [hpl] at bd
      refine ⟨N, t, D, n, ms, ls, ts, 0, kvs, rfl, x.same s2, d2, hn, fun k hk => ?_, fun p H' np sp hp => q p H' (none_of' s2 np) (s2.trans sp) hp⟩
      rw [bd.at_ k]
      by_cases y : k % 2 = 0
      · rw [if_pos y, if_pos (by omega)]
      · rw [if_neg y, if_neg (by omega)]
theorem ok_leaving (T : Txt K mg) (OC : TouC K CT) (m__makes_by : Met P w K mg base 2 CT "_makes_by" (spBy CT CO) []) (M : MAt K CT "leaving" "Tour.leaving" s_Tour_leaving ["self"]) : Met P w K mg base 3 CT "leaving" (spCom 1 CT CO) [] := by
  refine M.met OC.cl sc_Tour_leaving (fun vs H Q E h => ?_) (fun f cdv A outer s H vs Q E hr h => ?_)
  · obtain ⟨N, t, n, ms, ls, ts, rfl, _⟩ := h
    rfl
  · obtain ⟨N, t, n, ms, ls, ts, rfl, x, hn, q⟩ := h
    obtain ⟨dx, o, r, fs, xs, No, e1, l1, l2, nl, lf, e2, px, oa, sb, Nt, Nr, nt, nr, ct, al⟩ := x.ex
    have hpl := px.len
    refine ⟨_, (pss_one (ps_ret (pe_mt m__makes_by hr (by decide) (pv 0) (pa_cons (pe_dc (own := [("make", 1), ("marks", 2)]) (g := gTup K 2 (gCons (gName 1) (gCons (gName 2) gNil))) (tt := tYes) rfl sc_Tour_leaving.nd (pi_enum (by rfl) T.b_enumerate (pa_cons (pe_fld (pv 0) rfl) pa_nil)) (blkOk_by (own := [("make", 1), ("marks", 2)]) (N := ["self", "make", "marks"]) (sc := defScope s_Tour_leaving) (by decide +kernel)) (fun _ _ _ _ _ => by exact (pg_tup (by rfl) (pgs_cons (pg_name (i := 1) sc_Tour_leaving.nd rfl (Or.inl rfl)) (pgs_cons (pg_name (i := 2) sc_Tour_leaving.nd rfl (Or.inl rfl)) pgs_nil)))) (fun _ _ _ _ _ => pts_nil) (fun _ _ _ _ _ => (pe_ix (show IxR _ (rIxT K) from ix_tup) (pv 2) pe_int (fun _ _ => rfl))) (fun _ _ _ _ _ => (pv 1))) pa_nil)))), ?_⟩
    refine ⟨_, rfl, t, dx, fs, rfl, e1, nl _ (by decide), ?_⟩
    refine ⟨_, rfl, t, CT, dx, fs, .ref r, rfl, e1, OC.cl, OC.n_marks, l2, r, _, rfl, SqL.of e2, fun D hD => ?_⟩
    refine dc_it (walk_enum (xs := xs)) (fun i H' => Same H H' ∧ ∃ kvs, H' D = some (.dK kvs) ∧ ByD kvs 1 i) ⟨same_new hD, [], upd_same, .nil 1⟩ (fun i H' _ hP => SqL.of (hP.1 _ _ e2)) (fun i v H2 H3 hk hP hY => ?_) (fun H2 hP => ?_)
    · obtain ⟨s2, kvs, d2, bd⟩ := hP
      obtain ⟨Tp, u, v', rfl, hT, rfl, hu, hv⟩ := hY
      replace hu : some (V.int (i : Nat)) = some u := hu
      replace hv : xs[i]? = some v' := hv
      cases (Option.some.inj hu)
      obtain ⟨p, p1, p2⟩ := px.at_ i (by omega)
      rw [p1] at hv
      cases (Option.some.inj hv)
      have g5 := kep (u := .tup [V.int (i : Nat), .ref p]) (s2 _ _ p2) hT
      have d3 := kep (u := .tup [V.int (i : Nat), .ref p]) d2 hT
      have s3 : Same H (upd H2 Tp (.tup [V.int (i : Nat), .ref p])) := fun c z w => kep (s2 c z w) hT
      refine ⟨Tp, _, rfl, SqT.of upd_same, rfl, _, _, rfl, _, _, rfl, rfl, rfl, ?_⟩
      refine yesI ?_
      refine ⟨_, rfl, p, _, _, num (2 * i + 1), rfl, rfl, SqT.of g5, rfl, ?_⟩
      refine ⟨_, rfl, kvs, Sum.inl ((2 * i + 1 : Nat) : Int), rfl, d3, small1000 (by have := bd.len; omega), fun c u z => ?_, _, upd_same, bd.put (by decide)⟩
      rw [upd_ne (ne_of_none z hD)]
      exact s3 _ _ z
    · obtain ⟨s2, kvs, d2, bd⟩ := hP
      rw [hpl] at bd
      refine ⟨N, t, D, n, ms, ls, ts, 1, kvs, rfl, x.same s2, d2, hn, fun k hk => ?_, fun p H' np sp hp => q p H' (none_of' s2 np) (s2.trans sp) hp⟩
      rw [bd.at_ k]
      by_cases y : k % 2 = 1
      · rw [if_pos y, if_pos (by omega)]
      · rw [if_neg y, if_neg (by omega)]
end
end K18
set_option maxHeartbeats 1000000
namespace K18
open PySem PySem.Spec PyProof.Rows L2 Gd Gx
open C8 (clsBody Met pe_mt pe_mt0)
theorem numsD {K : PySem.W.Frag} {H : Hp} : ∀ xs : List Nat, DpAll K H (xs.map num) (xs.map fun n => PyData.int (n : Nat))
  | [] => .nil
  | x :: xs => .cons (.int _) (numsD xs)
theorem numsOk {xs : List Nat} (h : ∀ x ∈ xs, x ≤ 1000) (l : xs.length ≤ 200) : Okd (.list (xs.map fun n => PyData.int (n : Nat))) 20000 1 := by
  refine (okList (m := 50) (e := 0) (n := 200) (fun d hd => ?_) (by rw [List.length_map]; exact l)).up (by decide) (by decide)
  obtain ⟨x, hx, rfl⟩ := List.mem_map.mp hd
  have := h x hx
  exact numOk (by omega)
theorem pairOk {a b : Nat} (ha : a ≤ 1000) (hb : b ≤ 1000) : Okd (.tuple [.int (a : Nat), .int (b : Nat)]) 400 1 := by
  refine (okTuple (ds := [.int (a : Nat), .int (b : Nat)]) (m := 50) (e := 0) (n := 2) (fun d hd => ?_) (Nat.le_refl 2)).up (by decide) (by decide)
  rcases List.mem_cons.mp hd with rfl | hd
  · exact numOk (by omega)
  · rcases List.mem_cons.mp hd with rfl | hd
    · exact numOk (by omega)
    · cases hd
theorem byL_mem {e k : Nat} {ms : List Nat} (h : k ∈ byL e ms) : ∃ m, m ∈ ms ∧ k = m / 2 := by
  unfold byL at h
  obtain ⟨m, hm, rfl⟩ := List.mem_map.mp h
  exact ⟨m, (List.mem_filter.mp hm).1, rfl⟩
section
variable {P : Program} {w : World} {K : PySem.W.Frag} {mg : Str → Option Value} {base : Heap} {C CT CO : Addr}
def spTInit (CT CO : Addr) : Sp := fun vs H Q _ => ∃ (t dx : Addr), vs = [.ref t] ∧ H t = some (.ins CT dx []) ∧
  ∀ (H' : Hp) (N' : Addr → Prop), TouA N' H' t CT CO 1 [0, 1] [0, 512] 0 → (∀ c u, c ≠ t → H c = some u → H' c = some u) → (∀ c, N' c → c = t ∨ H c = none) → Q .non H'
theorem fn_tinit {f fO : Addr} {fdO : FuncData} {fd : FuncData} (T : Txt K mg) (OC : TouC K CT) (cO : mg "Order" = some (.ref CO)) (M_Order : Mk K CO fO) (B_Order : Binds K fdO ["self"] []) (G_Order : FnOk P w K mg base CX0 1 fO fdO ["self"] (spInit CO)) (m_behind : Met P w K mg base 3 CO "behind" (spBehind CO) [])
    (F : Fun K "__init__" "Tour.__init__" s_Tour___init__ f fd) : FnOk P w K mg base CX0 4 f fd ["self"] (spTInit CT CO) := by
  refine F.ok sc_Tour___init__ (fun vs H Q E h => ?_) (fun cdv A outer s H vs Q E hr h => ?_)
  · obtain ⟨t, dx, rfl, _⟩ := h
    rfl
  · obtain ⟨t, dx, rfl, e1, q⟩ := h
    refine ⟨_, (pss_cons (ps_fld (pv 0) (pe_make0 M_Order G_Order (hr.mono (by decide)) rfl cO B_Order .nil pass0) rfl)
      (pss_one (ps_fld (pv 0) (pe_lst (pa_cons (pe_tup (pa_cons pe_int (pa_cons (pe_mt m_behind hr (by decide) (pe_fld (pv 0) rfl) (pa_cons pe_int pa_nil)) pa_nil))) pa_nil)) rfl))), ?_⟩
    intro u du n1 n2 ne1
    refine ⟨u, du, rfl, upd_same, fun H1 N1 r1 k1 f1 => ⟨rfl, ?_⟩⟩
    have sm : Same H H1 := fun c x z => k1 c x (ne_of_none z n1) (by rw [upd_ne (ne_of_none z n1), upd_ne (ne_of_none z n2)]; exact z)
    have fr : ∀ c, N1 c → H c = none := fun c hc => by
      rcases f1 c hc with rfl | h
      · exact n1
      · exact none_of' (fun c x z => by rw [upd_ne (ne_of_none z n1), upd_ne (ne_of_none z n2)]; exact z) h
    have r1 := r1.cut
    have nt : ¬ (N1 t ∧ H1 t ≠ none) := fun h => by rw [fr t h.1] at e1; cases e1
    have e11 := sm _ _ e1
    refine ⟨_, rfl, t, CT, dx, [], rfl, e11, OC.cl, OC.n_order, by decide, ?_⟩
    have k2 : ∀ c x, c ≠ t → H1 c = some x → (upd H1 t (.ins CT dx (putF "_order" (.ref u) []))) c = some x := fun c x hc z => by
      rw [upd_ne hc]
      exact z
    have e2 : (upd H1 t (.ins CT dx (putF "_order" (.ref u) []))) t = some (.ins CT dx (putF "_order" (.ref u) [])) := upd_same
    generalize upd H1 t (.ins CT dx (putF "_order" (.ref u) [])) = H2 at *
    have r2 := r1.kp (H' := H2) fun c x hc z => k2 c x (fun e => nt (e ▸ hc)) z
    have lo : (putF "_order" (.ref u) ([] : List (Str × V))).lookup ("_order" : Str) = some (.ref u) := by rw [lookup_putF, if_pos rfl]
    obtain ⟨dy, fo, y1, yl⟩ := r2.ins
    refine ⟨_, rfl, t, CT, dx, _, .ref u, rfl, e2, OC.cl, OC.n_order, lo, u, dy, fo, rfl, y1, yl _ (by decide), ?_⟩
    refine ⟨_, u, [0], [0], 1, 0, 0, 0, rfl, r2, rfl, by decide, by decide, fun H3 r3 k3 => ?_⟩
    refine ⟨(by show 2 ≤ sizeLine; decide), fun p hp => ⟨(by show 1 ≤ sizeLine; decide), fun L hL => ?_⟩⟩
    have e3 := k3 _ _ nt e2
    have r3 := r3.cut
    have fr3 : ∀ c x, c ≠ t → H c = some x → H3 c = some x := fun c x hc z => k3 _ _ (fun h => by rw [fr c h.1] at z; cases z) (k2 _ _ hc (sm _ _ z))
    have p3 : (upd H3 p (.tup [.int 0, num 1])) p = some (.tup [num (2 * 0), num (2 * 0 + 1)]) := upd_same
    have s3 := same_new (o := .tup [.int 0, num 1]) hp
    generalize upd H3 p (.tup [.int 0, num 1]) = H4 at *
    have s4 := same_new (o := .lst [.ref p]) hL
    have L4 : (upd H4 L (.lst [.ref p])) L = some (.lst [.ref p]) := upd_same
    have nL3 := none_of' s3 hL
    generalize upd H4 L (.lst [.ref p]) = H5 at *
    have e5 := s4 _ _ (s3 _ _ e3)
    have tL : t ≠ L := ne_of_none e3 nL3
    have lf1 : (putF "_order" (.ref u) ([] : List (Str × V))).length ≤ 1 := length_putF _ _ _
    refine ⟨_, rfl, t, CT, dx, _, rfl, e5, OC.cl, OC.n_marks, Nat.lt_of_le_of_lt lf1 (by decide), ?_⟩
    have lf2 : (putF "_marks" (.ref L) (putF "_order" (.ref u) ([] : List (Str × V)))).length ≤ 2 := Nat.le_trans (length_putF _ _ _) (Nat.succ_le_succ lf1)
    have k6 : ∀ c x, c ≠ t → H5 c = some x → (upd H5 t (.ins CT dx (putF "_marks" (.ref L) (putF "_order" (.ref u) [])))) c = some x := fun c x hc z => by
      rw [upd_ne hc]
      exact z
    have e6 : (upd H5 t (.ins CT dx (putF "_marks" (.ref L) (putF "_order" (.ref u) [])))) t = some (.ins CT dx (putF "_marks" (.ref L) (putF "_order" (.ref u) []))) := upd_same
    generalize upd H5 t (.ins CT dx (putF "_marks" (.ref L) (putF "_order" (.ref u) []))) = H6 at *
    refine q H6 (fun c => c = t ∨ c = L ∨ N1 c) (TouA.mk' (No := fun c => (N1 c ∧ H1 c ≠ none) ∧ H3 c ≠ none) e6 ?_ ?_ (fun g hg => ?_) (Nat.le_trans lf2 (by decide)) (k6 _ _ tL.symm L4) ⟨rfl, fun j hj => ?_⟩ (r3.kp fun c x hc z => k6 _ _ (fun e => nt (e ▸ hc.1)) (s4 _ _ (s3 _ _ z))) (fun c h _ => .inr (.inr h.1.1)) (.inl rfl) (.inr (.inl rfl)) (fun h => nt h.1) (fun h => h.2 nL3) rfl (fun k hk => ?_)) (fun c x hc z => k6 _ _ hc (s4 _ _ (s3 _ _ (fr3 c x hc z)))) (fun c hc => ?_)
    · rw [lookup_putF, if_neg (by decide), lookup_putF, if_pos rfl]
    · rw [lookup_putF, if_pos rfl]
    · rw [lookup_putF, if_neg (fun z => hg (by rw [z]; decide)), lookup_putF, if_neg (fun z => hg (by rw [z]; decide))]
      rfl
    · obtain rfl : j = 0 := by omega
      exact ⟨p, rfl, k6 _ _ (fun e => by rw [e, e3] at hp; cases hp) (s4 _ _ p3)⟩
    · rcases (by omega : k = 0 ∨ k = 1) with rfl | rfl
      · exact ⟨0, rfl⟩
      · exact ⟨1, rfl⟩
    · rcases hc with rfl | rfl | h
      · exact .inl rfl
      · right
        cases hx : H c with
        | none => rfl
        | some x =>
          rw [fr3 c x tL.symm hx] at nL3
          cases nL3
      · exact .inr (fr c h)
def spTCopied (CT CO : Addr) : Sp := fun vs H Q _ => ∃ (N : Addr → Prop) (t : Addr) (n : Nat) (ms ls : List Nat) (ts : Nat), vs = [.ref t] ∧ TouA N H t CT CO n ms ls ts ∧
  ∀ (u : Addr) (H' : Hp) (N' : Addr → Prop), H u = none → TouA N' H' u CT CO n ms ls ts → (∀ c, N' c → H c = none) → Same H H' → Q (.ref u) H'
theorem ok_tcopied {fT : Addr} {fdT : FuncData} (T : Txt K mg) (OC : TouC K CT) (cT : mg "Tour" = some (.ref CT)) (M_Tour : Mk K CT fT) (B_Tour : Binds K fdT ["self"] []) (G_Tour : FnOk P w K mg base CX0 4 fT fdT ["self"] (spTInit CT CO)) (m_copied : Met P w K mg base 3 CO "copied" (spCopied CO) [])
    (M : MAt K CT "copied" "Tour.copied" s_Tour_copied ["self"]) : Met P w K mg base 6 CT "copied" (spTCopied CT CO) [] := by
  refine M.met OC.cl sc_Tour_copied (fun vs H Q E h => ?_) (fun f cdv A outer s H vs Q E hr h => ?_)
  · obtain ⟨N, t, n, ms, ls, ts, rfl, _⟩ := h
    rfl
  · obtain ⟨N, t, n, ms, ls, ts, rfl, x, q⟩ := h
    obtain ⟨dx, o, r, fs, xs, No, e1, l1, l2, nl, lf, e2, px, oa, sb, Nt, Nr, nt, nr, ct, al⟩ := x.ex
    refine ⟨_, (pss_cons (ps_set (i := 1) sc_Tour_copied.nd rfl (Or.inl rfl) (pe_make0 M_Tour G_Tour (hr.mono (by decide)) rfl cT B_Tour .nil pass0))
      (pss_cons (ps_fld (pv 1) (pe_mt0 m_copied hr (by decide) (pe_fld (pv 0) rfl)) rfl)
      (pss_cons (ps_fld (pv 1) (pe_callTy call_list_of (by rfl) T.t_list boot_list_ (pa_cons (pe_fld (pv 0) rfl) pa_nil)) rfl)
      (pss_one (ps_ret (pv 1)))))), ?_⟩
    intro u du n1 n2 ne
    refine ⟨u, du, rfl, upd_same, fun H1 N1 x1 k1 f1 => ⟨rfl, ?_⟩⟩
    have sm : Same H H1 := fun c x z => k1 c x (ne_of_none z n1) (by rw [upd_ne (ne_of_none z n1), upd_ne (ne_of_none z n2)]; exact z)
    obtain ⟨dy, o1, r1, gs, xs1, No1, y1, z1, z2, zl, zf, y2, px1, oa1, sb1, Nt1, Nr1, nt1, nr1, ct1, al1⟩ := x1.ex
    have oa2 := oa.kp (H' := H1) fun c x _ z => sm c x z
    obtain ⟨dyo, fo, w1, wl⟩ := oa2.ins
    refine ⟨_, rfl, t, CT, dx, fs, .ref o, rfl, sm _ _ e1, OC.cl, OC.n_order, l1, o, dyo, fo, rfl, w1, wl _ (by decide), No, o, ms, ls, 2 * n, ts, rfl, oa2, fun v H2 N2 nv oa3 f2 s2 => ?_⟩
    have y12 := s2 _ _ y1
    refine ⟨_, rfl, u, CT, dy, gs, rfl, y12, OC.cl, OC.n_order, by omega, ?_⟩
    have k3 : ∀ c x, c ≠ u → H2 c = some x → (upd H2 u (.ins CT dy (putF "_order" (.ref v) gs))) c = some x := fun c x hc z => by
      rw [upd_ne hc]
      exact z
    have e3 : (upd H2 u (.ins CT dy (putF "_order" (.ref v) gs))) u = some (.ins CT dy (putF "_order" (.ref v) gs)) := upd_same
    generalize upd H2 u (.ins CT dy (putF "_order" (.ref v) gs)) = H3 at *
    have sm3 : Same H H3 := fun c x z => k3 c x (ne_of_none z n1) (s2 _ _ (sm _ _ z))
    have g1 := putF_len (v := .ref v) z1
    refine ⟨_, rfl, t, CT, dx, fs, .ref r, rfl, sm3 _ _ e1, OC.cl, OC.n_marks, l2, r, _, rfl, .inl (SqL.of (sm3 _ _ e2)), fun p hp => ?_⟩
    have s4 := same_new (o := .lst xs) hp
    have p4 : (upd H3 p (.lst xs)) p = some (.lst xs) := upd_same
    generalize upd H3 p (.lst xs) = H4 at *
    have e4 := s4 _ _ e3
    have lm : (putF "_order" (.ref v) gs).lookup ("_marks" : Str) = some (.ref r1) := by rw [lookup_putF, if_neg (by decide)]; exact z2
    refine ⟨_, rfl, u, CT, dy, _, rfl, e4, OC.cl, OC.n_marks, by omega, ?_⟩
    have g2 := putF_len (v := .ref p) lm
    have k5 : ∀ c x, c ≠ u → H4 c = some x → (upd H4 u (.ins CT dy (putF "_marks" (.ref p) (putF "_order" (.ref v) gs)))) c = some x := fun c x hc z => by
      rw [upd_ne hc]
      exact z
    have e5 : (upd H4 u (.ins CT dy (putF "_marks" (.ref p) (putF "_order" (.ref v) gs)))) u = some (.ins CT dy (putF "_marks" (.ref p) (putF "_order" (.ref v) gs))) := upd_same
    generalize upd H4 u (.ins CT dy (putF "_marks" (.ref p) (putF "_order" (.ref v) gs))) = H5 at *
    have sm5 : Same H H5 := fun c x z => k5 c x (ne_of_none z n1) (s4 _ _ (sm3 _ _ z))
    have pu : p ≠ u := fun e => by rw [e, e3] at hp; cases hp
    have np := none_of' sm3 hp
    have nu2 : ¬ (N2 u ∧ H2 u ≠ none) := fun h => by
      have := f2 _ h.1
      rw [y1] at this
      cases this
    have oa3 := oa3.cut
    have np2 : ¬ (N2 p ∧ H2 p ≠ none) := fun h => by
      cases hx : H2 p with
      | none => exact h.2 hx
      | some x =>
        rw [k3 _ _ pu hx] at hp
        cases hp
    refine ⟨_, rfl, q u H5 (fun c => c = u ∨ c = p ∨ N2 c) n1 (TouA.mk' (No := fun c => N2 c ∧ H2 c ≠ none) e5 ?_ ?_ (fun g hg => ?_) (by omega) (k5 _ _ pu p4) (px.kp (KT.of sm5)) (oa3.kp fun c x hc z => k5 _ _ (fun e => nu2 (e ▸ hc)) (s4 _ _ (k3 _ _ (fun e => nu2 (e ▸ hc)) z))) (fun c h _ => .inr (.inr h.1)) (.inl rfl) (.inr (.inl rfl)) nu2 np2 x.len x.has) (fun c hc => ?_) sm5⟩
    · rw [lookup_putF, if_neg (by decide), lookup_putF, if_pos rfl]
    · rw [lookup_putF, if_pos rfl]
    · rw [lookup_putF, if_neg (fun z => hg (by rw [z]; decide)), lookup_putF, if_neg (fun z => hg (by rw [z]; decide))]
      exact zl g hg
    · rcases hc with rfl | rfl | h
      · exact n1
      · exact np
      · exact none_of' sm (f2 _ h)
end
end K18
set_option maxHeartbeats 1000000
namespace K18
open PySem PySem.Spec PyProof.Rows L2 Gd Gx
open C8 (clsBody Met pe_mt pe_mt0)
/-! the makes above one -/
def abvF (ow : List Nat) : Nat → Nat → List Nat
  | 0, _ => []
  | f + 1, m => if m = 0 then [] else ow.getD m 0 :: abvF ow f (ow.getD m 0)
def abv (ow : List Nat) (m : Nat) : List Nat := abvF ow m m
/-- each one put on an elder one -/
def Ow (ow : List Nat) : Prop := ∀ m, 0 < m → m < ow.length → ow.getD m 0 < m
theorem abvF_eq {ow : List Nat} (h : Ow ow) : ∀ (f m : Nat), m < ow.length → m ≤ f → abvF ow f m = abv ow m
  | 0, m, _, hf => by
    obtain rfl : m = 0 := by omega
    rfl
  | f + 1, 0, _, _ => rfl
  | f + 1, m + 1, hl, hf => by
    have hm := h (m + 1) (by omega) hl
    have e1 := abvF_eq h f (ow.getD (m + 1) 0) (by omega) (by omega)
    have e2 := abvF_eq h m (ow.getD (m + 1) 0) (by omega) (by omega)
    show (if m + 1 = 0 then [] else ow.getD (m + 1) 0 :: abvF ow f (ow.getD (m + 1) 0)) = (if m + 1 = 0 then [] else ow.getD (m + 1) 0 :: abvF ow m (ow.getD (m + 1) 0))
    rw [e1, e2]
theorem abv_step {ow : List Nat} (h : Ow ow) {m : Nat} (h0 : 0 < m) (hl : m < ow.length) : abv ow m = ow.getD m 0 :: abv ow (ow.getD m 0) := by
  obtain ⟨k, rfl⟩ : ∃ k, m = k + 1 := ⟨m - 1, by omega⟩
  have hm := h (k + 1) h0 hl
  show (if k + 1 = 0 then [] else ow.getD (k + 1) 0 :: abvF ow k (ow.getD (k + 1) 0)) = _
  rw [if_neg (by omega), abvF_eq h k _ (by omega) (by omega)]
theorem abv_lt {ow : List Nat} (h : Ow ow) : ∀ (m : Nat), m < ow.length → ∀ a, a ∈ abv ow m → a < m := by
  intro m
  induction m using Nat.strongRecOn with
  | ind m ih =>
    intro hl a ha
    by_cases z : m = 0
    · rw [z] at ha
      cases ha
    · have hm := h m (by omega) hl
      rw [abv_step h (by omega) hl] at ha
      rcases List.mem_cons.mp ha with rfl | ha
      · exact hm
      · have := ih _ hm (by omega) a ha
        omega
theorem getD_l {l : List Nat} {x m : Nat} (h : m < l.length) : (l ++ [x]).getD m 0 = l.getD m 0 := by
  rw [List.getD_eq_getElem?_getD, List.getD_eq_getElem?_getD, List.getElem?_append_left h]
theorem getD_e {l : List Nat} {x : Nat} : (l ++ [x]).getD l.length 0 = x := by
  rw [List.getD_eq_getElem?_getD, List.getElem?_append_right (Nat.le_refl _), Nat.sub_self]
  rfl
theorem Ow.snoc {ow : List Nat} (h : Ow ow) {j : Nat} (hj : j < ow.length) : Ow (ow ++ [j]) := fun m h0 hl => by
  rw [List.length_append] at hl
  by_cases z : m < ow.length
  · rw [getD_l z]
    exact h m h0 z
  · obtain rfl : m = ow.length := by
      have : m < ow.length + 1 := hl
      omega
    rw [getD_e]
    exact hj
theorem abv_snoc {ow : List Nat} (h : Ow ow) {j : Nat} (hj : j < ow.length) : ∀ (m : Nat), m < ow.length → abv (ow ++ [j]) m = abv ow m := by
  intro m
  induction m using Nat.strongRecOn with
  | ind m ih =>
    intro hl
    by_cases z : m = 0
    · rw [z]
      rfl
    · have hm := h m (by omega) hl
      rw [abv_step (h.snoc hj) (by omega) (by rw [List.length_append]; omega), abv_step h (by omega) hl, getD_l hl, ih _ hm (by omega)]
theorem abv_new {ow : List Nat} (h : Ow ow) {j : Nat} (hj : j < ow.length) : abv (ow ++ [j]) ow.length = j :: abv ow j := by
  rw [abv_step (h.snoc hj) (by omega) (by rw [List.length_append]; exact Nat.lt_succ_self _), getD_e, abv_snoc h hj j hj]
/-! the tour's marks against the makes above -/
structure Nest (ms ow : List Nat) (n : Nat) : Prop where
  okw : Ow ow
  len : ow.length = n
  one : ∀ (a i e : Nat), a < n → ms[i]? = some (2 * a) → ms[e]? = some (2 * a + 1) → i < e
  two : ∀ (a b i j e : Nat), a < n → b < n → ms[i]? = some (2 * a) → ms[j]? = some (2 * b) → ms[e]? = some (2 * a + 1) → ((i < j ∧ j < e) ↔ a ∈ abv ow b)
def sh (w i : Nat) : Nat := if i ≤ w then i else i + 2
theorem sh_lt {w i j : Nat} : sh w i < sh w j ↔ i < j := by
  unfold sh
  split <;> split <;> omega
theorem msG_old {ms : List Nat} {w i x : Nat} (hw : w < ms.length) (h : ms[i]? = some x) : (msG ms w)[sh w i]? = some x := by
  unfold msG sh
  rw [inl_at (by rw [inl_len (by omega)]; omega)]
  by_cases z : i ≤ w
  · rw [if_pos z, if_pos (by omega), inl_at (by omega), if_pos (by omega)]
    exact h
  · rw [if_neg z, if_neg (by omega), if_neg (by omega), inl_at (by omega), if_neg (by omega), if_neg (by omega)]
    exact h
theorem msG_a {ms : List Nat} {w : Nat} (hw : w < ms.length) : (msG ms w)[w + 1]? = some ms.length := by
  unfold msG
  rw [inl_at (by rw [inl_len (by omega)]; omega), if_pos (by omega), inl_at (by omega), if_neg (by omega), if_pos rfl]
theorem msG_b {ms : List Nat} {w : Nat} (hw : w < ms.length) : (msG ms w)[w + 2]? = some (ms.length + 1) := by
  unfold msG
  rw [inl_at (by rw [inl_len (by omega)]; omega), if_neg (by omega), if_pos rfl]
theorem Nest.grow {ms ow : List Nat} {n j w : Nat} (h : Nest ms ow n) (hj : j < n) (hlen : ms.length = 2 * n) (has : ∀ k, k < 2 * n → ∃ i : Nat, ms[i]? = some k)
    (nd : ∀ (i j m : Nat), ms[i]? = some m → ms[j]? = some m → i = j) (nd2 : ∀ (i j m : Nat), (msG ms w)[i]? = some m → (msG ms w)[j]? = some m → i = j) (hw : ms[w]? = some (2 * j)) : Nest (msG ms w) (ow ++ [j]) (n + 1) := by
  have hwl := lt_at hw
  have ol := h.len
  have hj2 : j < ow.length := by omega
  have a1 := msG_a hwl
  have a2 := msG_b hwl
  rw [hlen] at a1 a2
  have old : ∀ {x i' : Nat}, x < 2 * n → (msG ms w)[i']? = some x → ∃ i, ms[i]? = some x ∧ i' = sh w i := fun {x i'} hx hi' => by
    obtain ⟨i, hi⟩ := has x hx
    exact ⟨i, hi, nd2 _ _ _ hi' (msG_old hwl hi)⟩
  obtain ⟨wl, hwl2⟩ := has (2 * j + 1) (by omega)
  have jl := h.one j w wl hj hw hwl2
  refine ⟨h.okw.snoc hj2, by rw [List.length_append]; show ow.length + 1 = n + 1; omega, fun a i e ha hi he => ?_, fun a b i i2 e ha hb hi hi2 he => ?_⟩
  · by_cases z : a = n
    · subst z
      have e1 := nd2 _ _ _ hi a1
      have e2 := nd2 _ _ _ he a2
      omega
    · obtain ⟨i0, hi0, rfl⟩ := old (by omega) hi
      obtain ⟨e0, he0, rfl⟩ := old (by omega) he
      exact sh_lt.mpr (h.one a i0 e0 (by omega) hi0 he0)
  · by_cases z : a = n
    · subst z
      have e1 := nd2 _ _ _ hi a1
      have e2 := nd2 _ _ _ he a2
      refine ⟨fun z => by omega, fun z => ?_⟩
      have := abv_lt (h.okw.snoc hj2) b (by rw [List.length_append]; show b < ow.length + 1; omega) _ z
      omega
    · obtain ⟨i0, hi0, rfl⟩ := old (by omega) hi
      obtain ⟨e0, he0, rfl⟩ := old (by omega) he
      by_cases y : b = n
      · subst y
        have e3 := nd2 _ _ _ hi2 a1
        subst e3
        rw [show b = ow.length from ol.symm, abv_new h.okw hj2]
        have c1 : sh w i0 < w + 1 ↔ i0 ≤ w := by
          unfold sh
          split <;> omega
        have c2 : w + 1 < sh w e0 ↔ w < e0 := by
          unfold sh
          split <;> omega
        rw [c1, c2]
        by_cases x : a = j
        · subst x
          have e4 := nd _ _ _ hi0 hw
          have e5 := nd _ _ _ he0 hwl2
          refine ⟨fun _ => List.mem_cons_self .., fun _ => ⟨by omega, by omega⟩⟩
        · have n1 : i0 ≠ w := fun e => by
            rw [e, hw] at hi0
            have := Option.some.inj hi0
            omega
          have q := h.two a j i0 w e0 (by omega) hj hi0 hw he0
          refine ⟨fun z => List.mem_cons_of_mem _ (q.mp ⟨by omega, z.2⟩), fun z => ?_⟩
          rcases List.mem_cons.mp z with z | z
          · exact absurd z x
          · have := q.mpr z
            exact ⟨by omega, this.2⟩
      · obtain ⟨j0, hj0, rfl⟩ := old (by omega) hi2
        rw [sh_lt, sh_lt, abv_snoc h.okw hj2 b (by omega)]
        exact h.two a b i0 j0 e0 (by omega) (by omega) hi0 hj0 he0
theorem Nest.start : Nest [0, 1] [0] 1 := by
  refine ⟨fun m h0 hl => ?_, rfl, fun a i e ha hi he => ?_, fun a b i j e ha hb hi hj he => ?_⟩
  · have : m < 1 := hl
    omega
  · obtain rfl : a = 0 := by omega
    rcases i with _ | i
    · rcases e with _ | e
      · cases (Option.some.inj he)
      · omega
    · rcases i with _ | i
      · cases (Option.some.inj hi)
      · cases hi
  · obtain rfl : a = 0 := by omega
    obtain rfl : b = 0 := by omega
    refine ⟨fun z => ?_, fun z => by cases z⟩
    rcases i with _ | i
    · rcases j with _ | j
      · omega
      · rcases j with _ | j
        · cases (Option.some.inj hj)
        · cases hj
    · rcases i with _ | i
      · cases (Option.some.inj hi)
      · cases hi
/-- by coming, with the new one behind the one that it is put on -/
theorem byL_app (e : Nat) (xs ys : List Nat) : byL e (xs ++ ys) = byL e xs ++ byL e ys := by
  unfold byL
  rw [List.filter_append, List.map_append]
theorem byL_msG {ms : List Nat} {w n : Nat} (hlen : ms.length = 2 * n) : byL 0 (msG ms w) = byL 0 (ms.take (w + 1)) ++ [n] ++ byL 0 (ms.drop (w + 1)) := by
  have e : msG ms w = ms.take (w + 1) ++ [2 * n] ++ [2 * n + 1] ++ ms.drop (w + 1) := by
    unfold msG
    rw [hlen]
    by_cases z : w + 1 ≤ ms.length
    · unfold inl
      have l1 : (ms.take (w + 1) ++ [2 * n]).length = w + 2 := by
        rw [List.length_append, List.length_take]
        show min (w + 1) ms.length + 1 = w + 2
        omega
      rw [List.take_append_of_le_length (by omega), List.take_of_length_le (by omega), List.drop_append_of_le_length (by omega), List.drop_of_length_le (by omega), List.nil_append]
    · have t : ms.take (w + 1) = ms := List.take_of_length_le (by omega)
      have d : ms.drop (w + 1) = [] := List.drop_of_length_le (by omega)
      unfold inl
      rw [t, d, List.append_nil]
      have l1 : (ms ++ [2 * n]).length ≤ w + 2 := by
        rw [List.length_append]
        show ms.length + 1 ≤ w + 2
        omega
      rw [List.take_of_length_le l1, List.drop_of_length_le l1]
  rw [e, byL_app, byL_app, byL_app]
  have b1 : byL 0 [2 * n] = [n] := by
    have := byL_snoc 0 [] (2 * n)
    rw [if_pos (by omega)] at this
    rw [show ([] : List Nat) ++ [2 * n] = [2 * n] from rfl] at this
    rw [this]
    show [2 * n / 2] = [n]
    congr 1
    omega
  have b2 : byL 0 [2 * n + 1] = [] := by
    have := byL_snoc 0 [] (2 * n + 1)
    rw [if_neg (by omega)] at this
    exact this
  rw [b1, b2, List.append_nil]
/-- which are beneath -/
def insB (ms : List Nat) (a b : Nat) : Bool := decide (ms.idxOf (2 * a) < ms.idxOf (2 * b)) && decide (ms.idxOf (2 * b) < ms.idxOf (2 * a + 1))
theorem idx_at {ms : List Nat} {i k : Nat} (nd : ∀ (i j m : Nat), ms[i]? = some m → ms[j]? = some m → i = j) (h : ms[i]? = some k) : ms.idxOf k = i := by
  have hm : k ∈ ms := List.mem_of_getElem? h
  have hl := List.idxOf_lt_length_of_mem hm
  refine nd _ _ k ?_ h
  rw [List.getElem?_eq_getElem hl, List.getElem_idxOf hl]
section
variable {P : Program} {w : World} {K : PySem.W.Frag} {mg : Str → Option Value} {base : Heap} {C CT CO : Addr}
def spIsB (CT CO : Addr) : Sp := fun vs H Q _ => ∃ (N : Addr → Prop) (t : Addr) (n : Nat) (ms ls : List Nat) (ts a b : Nat), vs = [.ref t, num a, num b] ∧ TouA N H t CT CO n ms ls ts ∧ a < n ∧ b < n ∧ Q (.bl (insB ms a b)) H
theorem ok_isb (T : Txt K mg) (OC : TouC K CT) (m_ahead : Met P w K mg base 4 CO "ahead" (spAhead CO) []) (M : MAt K CT "_is_beneath" "Tour._is_beneath" s_Tour__is_beneath ["self", "one", "other"]) : Met P w K mg base 5 CT "_is_beneath" (spIsB CT CO) [] := by
  refine M.met OC.cl sc_Tour__is_beneath (fun vs H Q E h => ?_) (fun f cdv A outer s H vs Q E hr h => ?_)
  · obtain ⟨N, t, n, ms, ls, ts, a, b, rfl, _⟩ := h
    rfl
  · obtain ⟨N, t, n, ms, ls, ts, a, b, rfl, x, ha, hb, q⟩ := h
    obtain ⟨dx, o, r, fs, xs, No, e1, l1, l2, nl, lf, e2, px, oa, sb, Nt, Nr, nt, nr, ct, al⟩ := x.ex
    obtain ⟨dy, fo, y1, yl⟩ := oa.ins
    obtain ⟨pa, a1, a2⟩ := px.at_ a ha
    obtain ⟨pb, b1, b2⟩ := px.at_ b hb
    obtain ⟨i, hi⟩ := x.has (2 * a) (by omega)
    obtain ⟨j, hj⟩ := x.has (2 * b) (by omega)
    obtain ⟨e, he⟩ := x.has (2 * a + 1) (by omega)
    have nd := oa.ok.nd
    have v : insB ms a b = (decide (i < j) && decide (j < e)) := by
      unfold insB
      rw [idx_at nd hi, idx_at nd hj, idx_at nd he]
    refine ⟨_, (pss_cons (ps_set (i := 3) sc_Tour__is_beneath.nd rfl (Or.inl rfl) (pe_ix ix_tup (pe_ix ix_list (pe_fld (pv 0) rfl) (pv 2) (fun _ _ => rfl)) pe_int (fun _ _ => rfl)))
      (pss_one (ps_ret (pe_and (pe_mt m_ahead hr (by decide) (pe_fld (pv 0) rfl) (pa_cons (pe_ix ix_tup (pe_ix ix_list (pe_fld (pv 0) rfl) (pv 1) (fun _ _ => rfl)) pe_int (fun _ _ => rfl)) (pa_cons (pv 3) pa_nil))) (pe_one (pe_mt m_ahead hr (by decide) (pe_fld (pv 0) rfl) (pa_cons (pv 3) (pa_cons (pe_ix ix_tup (pe_ix ix_list (pe_fld (pv 0) rfl) (pv 1) (fun _ _ => rfl)) pe_int (fun _ _ => rfl)) pa_nil)))))))), ?_⟩
    refine ⟨_, rfl, t, CT, dx, fs, .ref r, rfl, e1, OC.cl, OC.n_marks, l2, _, rfl, r, xs, _, _, rfl, rfl, SqL.of e2, atI_nat b1, pb, _, _, num (2 * b), rfl, rfl, SqT.of b2, rfl, ?_⟩
    refine ⟨_, rfl, t, CT, dx, fs, .ref o, rfl, e1, OC.cl, OC.n_order, l1, o, dy, fo, rfl, y1, yl _ (by decide), ?_⟩
    refine ⟨_, rfl, t, CT, dx, fs, .ref r, rfl, e1, OC.cl, OC.n_marks, l2, _, rfl, r, xs, _, _, rfl, rfl, SqL.of e2, atI_nat a1, pa, _, _, num (2 * a), rfl, rfl, SqT.of a2, rfl, _, rfl, ?_⟩
    refine ⟨No, o, ms, ls, 2 * n, ts, i, j, 2 * a, 2 * b, rfl, oa, hi, hj, _, rfl, ?_⟩
    refine ite2 (fun hc => ?_) (fun hc => ?_)
    · refine ⟨_, rfl, t, CT, dx, fs, .ref o, rfl, e1, OC.cl, OC.n_order, l1, o, dy, fo, rfl, y1, yl _ (by decide), _, rfl, ?_⟩
      refine ⟨_, rfl, t, CT, dx, fs, .ref r, rfl, e1, OC.cl, OC.n_marks, l2, _, rfl, r, xs, _, _, rfl, rfl, SqL.of e2, atI_nat a1, pa, _, _, num (2 * a + 1), rfl, rfl, SqT.of a2, rfl, ?_⟩
      refine ⟨No, o, ms, ls, 2 * n, ts, j, e, 2 * b, 2 * a + 1, rfl, oa, hj, he, ?_⟩
      rw [v, hc, Bool.true_and] at q
      exact q
    · have hc2 : decide (i < j) = false := by
        cases z : decide (i < j) with
        | true => exact absurd z hc
        | false => rfl
      rw [v, hc2, Bool.false_and] at q
      exact q
def spWithin (CT CO : Addr) : Sp := fun vs H Q _ => ∃ (N : Addr → Prop) (t : Addr) (n : Nat) (ms ls : List Nat) (ts a b : Nat), vs = [.ref t, num a, num b] ∧ TouA N H t CT CO n ms ls ts ∧ a < n ∧ b < n ∧ Q (.bl (decide (a = b) || insB ms a b)) H
theorem ok_within (T : Txt K mg) (OC : TouC K CT) (m__need_make : Met P w K mg base 2 CT "_need_make" (spTNeed CT CO) []) (m__is_beneath : Met P w K mg base 5 CT "_is_beneath" (spIsB CT CO) []) (M : MAt K CT "within" "Tour.within" s_Tour_within ["self", "one", "other"]) : Met P w K mg base 6 CT "within" (spWithin CT CO) [] := by
  refine M.met OC.cl sc_Tour_within (fun vs H Q E h => ?_) (fun f cdv A outer s H vs Q E hr h => ?_)
  · obtain ⟨N, t, n, ms, ls, ts, a, b, rfl, _⟩ := h
    rfl
  · obtain ⟨N, t, n, ms, ls, ts, a, b, rfl, x, ha, hb, q⟩ := h
    obtain ⟨dx, fs, e1, nl⟩ := x.ins
    refine ⟨_, (pss_cons (ps_expr (pe_mt m__need_make hr (by decide) (pv 0) (pa_cons (pv 1) pa_nil)))
      (pss_cons (ps_expr (pe_mt m__need_make hr (by decide) (pv 0) (pa_cons (pv 2) pa_nil)))
      (pss_one (ps_ret (L2.pe_or (pe_cmpR op_eq (pv 1) (pv 2) (nomark _)) (pe_one (pe_mt m__is_beneath hr (by decide) (pv 0) (pa_cons (pv 1) (pa_cons (pv 2) pa_nil))))))))), ?_⟩
    refine ⟨_, rfl, t, dx, fs, rfl, e1, nl _ (by decide), _, rfl, N, t, n, ms, ls, ts, a, rfl, x, ha, ?_⟩
    refine ⟨_, rfl, t, dx, fs, rfl, e1, nl _ (by decide), _, rfl, N, t, n, ms, ls, ts, b, rfl, x, hb, ?_⟩
    refine ⟨_, rfl, _, rfl, rfl, _, rfl, ?_⟩
    refine ite2 (fun hc => ?_) (fun hc => ?_)
    · have e : a = b := num_inj (of_decide_eq_true hc)
      rw [decide_eq_true e, Bool.true_or] at q
      exact q
    · have e : ¬ a = b := fun z => hc (decide_eq_true (by rw [z]))
      refine ⟨_, rfl, t, dx, fs, rfl, e1, nl _ (by decide), _, rfl, _, rfl, N, t, n, ms, ls, ts, a, b, rfl, x, ha, hb, ?_⟩
      rw [decide_eq_false e, Bool.false_or] at q
      exact q
def spBen (CT CO : Addr) : Sp := fun vs H Q _ => ∃ (N : Addr → Prop) (t : Addr) (n : Nat) (ms ls : List Nat) (ts a : Nat), vs = [.ref t, num a] ∧ TouA N H t CT CO n ms ls ts ∧ a < n ∧ n ≤ 64 ∧
  ∀ (p : Addr) (H' : Hp), H p = none → Same H H' → H' p = some (.lst (((byL 0 ms).filter (insB ms a)).map num)) → Q (.ref p) H'
theorem ok_ben (T : Txt K mg) (OC : TouC K CT) (m__need_make : Met P w K mg base 2 CT "_need_make" (spTNeed CT CO) []) (m_coming : Met P w K mg base 3 CT "coming" (spCom 0 CT CO) []) (m__is_beneath : Met P w K mg base 5 CT "_is_beneath" (spIsB CT CO) []) (M : MAt K CT "beneath" "Tour.beneath" s_Tour_beneath ["self", "make"]) : Met P w K mg base 6 CT "beneath" (spBen CT CO) [] := by
  refine M.met OC.cl sc_Tour_beneath (fun vs H Q E h => ?_) (fun f cdv A outer s H vs Q E hr h => ?_)
  · obtain ⟨N, t, n, ms, ls, ts, a, rfl, _⟩ := h
    rfl
  · obtain ⟨N, t, n, ms, ls, ts, a, rfl, x, ha, hn, q⟩ := h
    obtain ⟨dx, fs, e1, nl⟩ := x.ins
    have ok := x.ok
    have hlen := x.len
    refine ⟨_, (pss_cons (ps_expr (pe_mt m__need_make hr (by decide) (pv 0) (pa_cons (pv 1) pa_nil)))
      (pss_one (ps_ret (pe_lc (own := [("other", 2)]) (g := gName 2) (tt := _) rfl sc_Tour_beneath.nd (pi_list (pe_mt0 m_coming hr (by decide) (pv 0))) (blkOk_by (own := [("other", 2)]) (N := ["self", "make", "other"]) (sc := defScope s_Tour_beneath) (by decide +kernel)) (fun _ _ _ _ _ => pg_name (i := 2) sc_Tour_beneath.nd rfl (Or.inl rfl)) (fun _ _ _ _ _ => (pts_one (pt_val (pe_mt m__is_beneath hr (by decide) (pv 0) (pa_cons (pv 1) (pa_cons (pv 2) pa_nil)))))) (fun _ _ _ _ _ => (pv 2)))))), ?_⟩
    refine ⟨_, rfl, t, dx, fs, rfl, e1, nl _ (by decide), _, rfl, N, t, n, ms, ls, ts, a, rfl, x, ha, ?_⟩
    refine ⟨_, rfl, t, dx, fs, rfl, e1, nl _ (by decide), N, t, n, ms, ls, ts, rfl, x, hn, fun p H1 np s1 hp => ⟨p, rfl, ⟨_, SqL.of hp⟩, fun L hL => ?_⟩⟩
    refine lc_it (walk_list (xs := (byL 0 ms).map num)) (fun k H' => Same H1 H' ∧ H' L = some (.lst ((((byL 0 ms).take k).filter (insB ms a)).map num))) ⟨same_new hL, upd_same⟩ (fun k H' _ hP => SqL.of (hP.1 _ _ hp)) (fun k v H2 H3 hk hP hY => ?_) (fun H2 hP => ?_)
    · obtain ⟨s2, d2⟩ := hP
      obtain ⟨rfl, hx⟩ := hY
      rw [List.length_map] at hk
      obtain ⟨b, hb⟩ : ∃ b, (byL 0 ms)[k]? = some b := ⟨_, List.getElem?_eq_getElem hk⟩
      rw [List.getElem?_map, hb] at hx
      cases (show some (num b) = some v from hx)
      obtain ⟨m, hm, rfl⟩ := byL_mem (List.mem_of_getElem? hb)
      obtain ⟨i0, hi0⟩ := List.getElem?_of_mem hm
      have hmlt := ok.lt _ _ hi0
      have x3 := x.same (s1.trans s2)
      refine ⟨rfl, ?_⟩
      refine ⟨_, rfl, t, dx, fs, rfl, s2 _ _ (s1 _ _ e1), nl _ (by decide), _, rfl, _, rfl, N, t, n, ms, ls, ts, a, m / 2, rfl, x3, ha, by omega, _, rfl, ?_⟩
      have bl := byL_len 0 ms
      have few := ok.few
      refine ite2 (fun hc => ?_) (fun hc => ?_)
      · refine ⟨_, rfl, _, d2, ?_, fun c u z => ?_, ?_⟩
        · rw [List.length_map]
          have := List.length_filter_le (insB ms a) ((byL 0 ms).take k)
          rw [List.length_take] at this
          exact small1000 (by omega)
        · rw [upd_ne (ne_of_none z hL)]
          exact s2 _ _ z
        · rw [upd_same, List.take_add_one, hb, List.filter_append, List.map_append]
          show some (HO.lst (_ ++ _)) = some (.lst (_ ++ (List.filter (insB ms a) [m / 2]).map num))
          rw [show List.filter (insB ms a) [m / 2] = [m / 2] from by simp [List.filter, hc]]
          rfl
      · have hc2 : insB ms a (m / 2) = false := by
          cases z : insB ms a (m / 2) with
          | true => exact absurd z hc
          | false => rfl
        refine ⟨s2, ?_⟩
        rw [d2, List.take_add_one, hb, List.filter_append]
        show _ = some (HO.lst ((_ ++ List.filter (insB ms a) [m / 2]).map num))
        rw [show List.filter (insB ms a) [m / 2] = [] from by simp [List.filter, hc2], List.append_nil]
    · obtain ⟨s2, d2⟩ := hP
      rw [List.take_of_length_le (by rw [List.length_map]; omega)] at d2
      exact q L H2 (none_of' s1 hL) (s1.trans s2) d2
end
end K18
set_option maxHeartbeats 1000000
namespace K18.Lf
open PySem PySem.Spec PyProof.Rows L2 Gd
open C8 (clsBody Met pe_mt pe_mt0)
/-- a class of trees -/
structure TreeC (K : PySem.W.Frag) (C : Addr) : Prop where
  cl : Cls K C
  n_owns : NoAttr K C "_owns"
  n_depths : NoAttr K C "_depths"
  n_on : NoAttr K C "_on"
  n_leaps : NoAttr K C "_leaps"
def fields : List Str := ["_owns", "_depths", "_on", "_leaps"]
/-! the line of a make -/
def par (ow : List Nat) (i : Nat) : Nat := ow.getD (i - 1) 0
def Low (ow : List Nat) : Prop := ∀ (i j : Nat), ow[i]? = some j → j ≤ i
theorem par_lt {ow : List Nat} (h : Low ow) {i : Nat} (hi : 0 < i) : par ow i < i := by
  unfold par
  rw [List.getD_eq_getElem?_getD]
  cases e : ow[i - 1]? with
  | none =>
    show 0 < i
    exact hi
  | some j =>
    have := h _ _ e
    show j < i
    omega
def lineN (ow : List Nat) : Nat → Nat → List Nat
  | 0, i => [i]
  | f + 1, i => if i = 0 then [0] else lineN ow f (par ow i) ++ [i]
def line (ow : List Nat) (i : Nat) : List Nat := lineN ow i i
theorem lineN_more {ow : List Nat} (h : Low ow) : ∀ (f i : Nat), i ≤ f → lineN ow f i = lineN ow i i := by
  intro f
  induction f using Nat.strongRecOn with
  | _ f ih =>
    intro i hi
    cases f with
    | zero =>
      have e : i = 0 := by omega
      rw [e]
    | succ f =>
      cases i with
      | zero => rfl
      | succ i =>
        have hp := par_lt h (i := i + 1) (by omega)
        show (if i + 1 = 0 then [0] else lineN ow f (par ow (i + 1)) ++ [i + 1]) = (if i + 1 = 0 then [0] else lineN ow i (par ow (i + 1)) ++ [i + 1])
        rw [if_neg (by omega), if_neg (by omega), ih f (by omega) _ (by omega)]
        by_cases e : i < f + 1
        · rw [ih i (by omega) _ (by omega)]
        · omega
theorem line_step {ow : List Nat} (h : Low ow) {i : Nat} (hi : 0 < i) : line ow i = line ow (par ow i) ++ [i] := by
  obtain ⟨j, rfl⟩ : ∃ j, i = j + 1 := ⟨i - 1, by omega⟩
  have hp := par_lt h hi
  show (if j + 1 = 0 then [0] else lineN ow j (par ow (j + 1)) ++ [j + 1]) = _
  rw [if_neg (by omega), lineN_more h j _ (by omega)]
  rfl
theorem line_zero (ow : List Nat) : line ow 0 = [0] := rfl
theorem line_le {ow : List Nat} (h : Low ow) : ∀ (i : Nat), ∀ x ∈ line ow i, x ≤ i := by
  intro i
  induction i using Nat.strongRecOn with
  | _ i ih =>
    intro x hx
    by_cases h0 : 0 < i
    · rw [line_step h h0] at hx
      rcases List.mem_append.mp hx with hx | hx
      · have := ih _ (par_lt h h0) x hx
        have := par_lt h h0
        omega
      · rw [List.mem_singleton.mp hx]
        exact Nat.le_refl _
    · have e : i = 0 := by omega
      subst e
      rw [line_zero] at hx
      rw [List.mem_singleton.mp hx]
      exact Nat.le_refl _
theorem line_len {ow : List Nat} (h : Low ow) : ∀ i : Nat, (line ow i).length ≤ i + 1 := by
  intro i
  induction i using Nat.strongRecOn with
  | _ i ih =>
    by_cases h0 : 0 < i
    · rw [line_step h h0, List.length_append]
      have := ih _ (par_lt h h0)
      have := par_lt h h0
      show _ + 1 ≤ i + 1
      omega
    · have e : i = 0 := by omega
      subst e
      exact Nat.le_refl 1
/-- the last make that stands at the same place of both -/
def nearL (xs ys : List Nat) : Nat := (xs.zip ys).foldl (fun a p => if p.1 = p.2 then p.1 else a) 0
theorem near_snoc {xs ys : List Nat} {a : Nat} (h : a ∉ ys) : nearL (xs ++ [a]) ys = nearL xs ys := by
  have hz : (xs ++ [a]).zip ys = xs.zip ys ++ (match ys[xs.length]? with | some b => [(a, b)] | none => []) := by
    induction xs generalizing ys with
    | nil =>
      cases ys with
      | nil => rfl
      | cons y r => simp
    | cons x r ih =>
      cases ys with
      | nil => simp
      | cons y s =>
        have := ih (ys := s) (fun z => h (List.mem_cons_of_mem _ z))
        simp [this]
  unfold nearL
  rw [hz, List.foldl_append]
  cases e : ys[xs.length]? with
  | none => rfl
  | some b =>
    have hb : b ∈ ys := List.mem_of_getElem? e
    show (if a = b then a else _) = _
    have hab : a ≠ b := fun q => h (by rw [q]; exact hb)
    rw [if_neg hab]
theorem near_comm (xs ys : List Nat) : nearL xs ys = nearL ys xs := by
  unfold nearL
  have : ∀ (xs ys : List Nat) (c : Nat), (xs.zip ys).foldl (fun a p => if p.1 = p.2 then p.1 else a) c = (ys.zip xs).foldl (fun a p => if p.1 = p.2 then p.1 else a) c := by
    intro xs
    induction xs with
    | nil =>
      intro ys c
      simp
    | cons x r ih =>
      intro ys c
      cases ys with
      | nil => simp
      | cons y s =>
        simp only [List.zip_cons_cons, List.foldl_cons]
        rw [ih]
        by_cases e : x = y
        · rw [e]
        · rw [if_neg e, if_neg (fun q => e q.symm)]
  exact this xs ys 0
theorem near_self {ow : List Nat} (h : Low ow) (i : Nat) : nearL (line ow i) (line ow i) = i := by
  have all : ∀ (xs : List Nat) (c a : Nat), ((xs ++ [a]).zip (xs ++ [a])).foldl (fun a p => if p.1 = p.2 then p.1 else a) c = a := by
    intro xs
    induction xs with
    | nil =>
      intro c a
      simp
    | cons x r ih =>
      intro c a
      simp only [List.cons_append, List.zip_cons_cons, List.foldl_cons]
      exact ih _ a
  by_cases h0 : 0 < i
  · rw [line_step h h0]
    exact all _ 0 i
  · have e : i = 0 := by omega
    subst e
    rfl
theorem near_left {ow : List Nat} (h : Low ow) {i j : Nat} (hij : j < i) : nearL (line ow (par ow i)) (line ow j) = nearL (line ow i) (line ow j) := by
  rw [line_step h (by omega : 0 < i), near_snoc]
  intro hm
  have := line_le h j i hm
  omega
theorem near_right {ow : List Nat} (h : Low ow) {i j : Nat} (hij : i < j) : nearL (line ow i) (line ow (par ow j)) = nearL (line ow i) (line ow j) := by
  rw [near_comm, near_left h hij, near_comm]
theorem line_last {ow : List Nat} (h : Low ow) (i : Nat) : ∃ us, line ow i = us ++ [i] ∧ i ∉ us := by
  by_cases h0 : 0 < i
  · refine ⟨line ow (par ow i), line_step h h0, fun hm => ?_⟩
    have := line_le h _ _ hm
    have := par_lt h h0
    omega
  · have e : i = 0 := by omega
    subst e
    exact ⟨[], rfl, fun z => nomatch z⟩
theorem line_pre {ow : List Nat} (h : Low ow) : ∀ (i x : Nat), x ∈ line ow i → ∃ r, line ow i = line ow x ++ r := by
  intro i
  induction i using Nat.strongRecOn with
  | _ i ih =>
    intro x hx
    by_cases e : x = i
    · exact ⟨[], by rw [e, List.append_nil]⟩
    · by_cases h0 : 0 < i
      · rw [line_step h h0] at hx ⊢
        rcases List.mem_append.mp hx with hx | hx
        · obtain ⟨r, hr⟩ := ih _ (par_lt h h0) x hx
          exact ⟨r ++ [i], by rw [hr, List.append_assoc]⟩
        · exact absurd (List.mem_singleton.mp hx) e
      · have e0 : i = 0 := by omega
        subst e0
        rw [line_zero] at hx
        exact absurd (List.mem_singleton.mp hx) e
theorem zero_mem {ow : List Nat} (h : Low ow) : ∀ i : Nat, 0 ∈ line ow i := by
  intro i
  induction i using Nat.strongRecOn with
  | _ i ih =>
    by_cases h0 : 0 < i
    · rw [line_step h h0]
      exact List.mem_append_left _ (ih _ (par_lt h h0))
    · have e : i = 0 := by omega
      subst e
      exact List.mem_cons_self
/-- where a make stands on a line: at its depth, and not ahead -/
theorem line_index {ow : List Nat} (h : Low ow) {i x : Nat} (hx : x ∈ line ow i) : ∃ us r, line ow i = us ++ x :: r ∧ us.length = (line ow x).length - 1 ∧ x ∉ us := by
  obtain ⟨r, hr⟩ := line_pre h i x hx
  obtain ⟨us, hu, hn⟩ := line_last h x
  refine ⟨us, r, ?_, ?_, hn⟩
  · rw [hr, hu, List.append_assoc]
    rfl
  · rw [hu, List.length_append]
    show us.length = us.length + 1 - 1
    omega
/-- how deep each make stands -/
def depths (ow : List Nat) : List Nat := (List.range (ow.length + 1)).map fun i => (line ow i).length - 1
theorem depths_at {ow : List Nat} {i : Nat} (h : i ≤ ow.length) : atI ((depths ow).map num) ((i : Nat) : Int) = some (num ((line ow i).length - 1)) := by
  refine atI_nat ?_
  unfold depths
  rw [List.map_map, List.getElem?_map, List.getElem?_range (by omega)]
  rfl
theorem par_more {ow : List Nat} {k x : Nat} (hx : 0 < x) (h : x ≤ ow.length) : par (ow ++ [k]) x = par ow x := by
  unfold par
  rw [List.getD_eq_getElem?_getD, List.getD_eq_getElem?_getD, List.getElem?_append_left (by omega)]
theorem low_more {ow : List Nat} (h : Low ow) {k : Nat} (hk : k ≤ ow.length) : Low (ow ++ [k]) := by
  intro i j e
  by_cases hi : i < ow.length
  · rw [List.getElem?_append_left hi] at e
    exact h i j e
  · rw [List.getElem?_append_right (by omega)] at e
    by_cases h0 : i - ow.length = 0
    · rw [h0] at e
      have : k = j := Option.some.inj e
      omega
    · rw [List.getElem?_eq_none (by show 1 ≤ _; omega)] at e
      cases e
theorem line_more {ow : List Nat} (h : Low ow) {k : Nat} (hk : k ≤ ow.length) : ∀ x : Nat, x ≤ ow.length → line (ow ++ [k]) x = line ow x := by
  intro x
  induction x using Nat.strongRecOn with
  | _ x ih =>
    intro hx
    by_cases h0 : 0 < x
    · have := par_lt h h0
      rw [line_step (low_more h hk) h0, line_step h h0, par_more h0 hx, ih _ this (by omega)]
    · have e : x = 0 := by omega
      subst e
      rfl
theorem line_new {ow : List Nat} (h : Low ow) {k : Nat} (hk : k ≤ ow.length) : line (ow ++ [k]) (ow.length + 1) = line ow k ++ [ow.length + 1] := by
  have hp : par (ow ++ [k]) (ow.length + 1) = k := by
    unfold par
    rw [List.getD_eq_getElem?_getD, Nat.add_sub_cancel, List.getElem?_append_right (Nat.le_refl _), Nat.sub_self]
    rfl
  rw [line_step (low_more h hk) (by omega), hp, line_more h hk _ hk]
theorem depths_more {ow : List Nat} (h : Low ow) {k : Nat} (hk : k ≤ ow.length) : depths (ow ++ [k]) = depths ow ++ [(line ow k).length] := by
  unfold depths
  rw [List.length_append, show ow.length + [k].length + 1 = (ow.length + 1) + 1 from rfl, List.range_succ, List.map_append]
  congr 1
  · refine List.map_congr_left fun x hx => ?_
    rw [line_more h hk x (by have := List.mem_range.mp hx; omega)]
  · show [(line (ow ++ [k]) (ow.length + 1)).length - 1] = _
    rw [line_new h hk, List.length_append]
    rfl
theorem cut_from (xs : List V) (k : Nat) : cutV xs (some (k : Int)) none = xs.drop k := by
  unfold cutV
  rw [HT.sIx_nat, HT.sIx_none]
  by_cases h : k ≤ xs.length
  · rw [Nat.min_eq_left h]
    have := List.take_length (l := xs.drop k)
    rw [List.length_drop] at this
    exact this
  · rw [Nat.min_eq_right (by omega), List.drop_eq_nil_of_le (by omega : xs.length ≤ k), List.drop_length]
    exact List.take_nil
/-- a tree of the class C at t: the own makes of 1, 2, .. and how deep each stands -/
structure Tr (H : Hp) (t C : Addr) (ow ds : List Nat) : Prop where
  ex : ∃ (dx o d n : Addr) (fs : List (Str × V)), H t = some (.ins C dx fs) ∧ fs.lookup ("_owns" : Str) = some (.ref o) ∧ fs.lookup ("_depths" : Str) = some (.ref d) ∧ fs.lookup ("_on" : Str) = some (.ref n) ∧
    (∀ m, m ∉ fields → fs.lookup m = none) ∧ H o = some (.lst (.non :: ow.map num)) ∧ H d = some (.lst (ds.map num)) ∧ fs.length < 1000
  low : ∀ (i j : Nat), ow[i]? = some j → j ≤ i
  few : ow.length ≤ 63
  deep : ds = depths ow
section
variable {P : Program} {w : World} {K : PySem.W.Frag} {mg : Str → Option Value} {base : Heap} {C : Addr}
def spMany (C : Addr) : Sp := fun vs H Q _ => ∃ (t : Addr) (ow ds : List Nat), vs = [.ref t] ∧ Tr H t C ow ds ∧ Q (.int ((ow.length + 1 : Nat) : Int)) H
theorem ok_many (T : Txt K mg) (TC : TreeC K C) (M : MAt K C "many" "MakeTree.many" s_MakeTree_many ["self"]) : Met P w K mg base 1 C "many" (spMany C) [] := by
  refine M.met TC.cl sc_MakeTree_many (fun vs H Q E h => ?_) (fun f cdv A outer s H vs Q E hr h => ?_)
  · obtain ⟨t, ow, ds, rfl, _⟩ := h
    rfl
  · obtain ⟨t, ow, ds, rfl, tr, q⟩ := h
    obtain ⟨dx, o, d, n, fs, e1, l1, l2, l3, lo, e2, e3, lf⟩ := tr.ex
    refine ⟨_, (pss_one (ps_ret (pe_callB call_len (by rfl) T.b_len boot_len_ (pa_cons (pe_fld (pv 0) rfl) pa_nil)))), ?_⟩
    refine ⟨_, rfl, t, C, dx, fs, .ref o, rfl, e1, TC.cl, TC.n_owns, l1, .ref o, (V.non :: ow.map num).length, rfl, .inl ⟨_, SqL.of e2, rfl⟩, ?_⟩
    have e : (V.non :: ow.map num).length = ow.length + 1 := by rw [List.length_cons, List.length_map]
    rw [e]
    exact q
def spNeed (C : Addr) : Sp := fun vs H Q _ => ∃ (t : Addr) (ow ds : List Nat) (i : Nat), vs = [.ref t, num i] ∧ Tr H t C ow ds ∧ i ≤ ow.length ∧ Q .non H
theorem ok_need (T : Txt K mg) (TC : TreeC K C) (c_is_whole : C8.Cal P w K mg base 1 "is_whole" spWhI []) (m_many : Met P w K mg base 1 C "many" (spMany C) []) (M : MAt K C "_need_make" "MakeTree._need_make" s_MakeTree__need_make ["self", "make"]) :
    Met P w K mg base 2 C "_need_make" (spNeed C) [] := by
  refine M.met TC.cl sc_MakeTree__need_make (fun vs H Q E h => ?_) (fun f cdv A outer s H vs Q E hr h => ?_)
  · obtain ⟨t, ow, ds, i, rfl, _⟩ := h
    rfl
  · obtain ⟨t, ow, ds, i, rfl, tr, hi, q⟩ := h
    obtain ⟨dx, o, d, n, fs, e1, l1, l2, l3, lo, e2, e3, lf⟩ := tr.ex
    refine ⟨_, (pss_one (ps_if (pt_not (pt_val (C8.pe_c c_is_whole hr (by decide) (by rfl) (pa_cons (pv 1) (pa_cons pe_int (pa_cons (pe_op op_sub (pe_mt0 m_many hr (by decide) (pv 0)) pe_int) pa_nil))))))
          (pss_one ps_never) pss_nil)), ?_⟩
    have nl := lo
    refine ⟨_, rfl, _, rfl, t, dx, fs, rfl, e1, nl _ (by decide), t, ow, ds, rfl, tr, _, _, rfl, rfl, ?_⟩
    refine ⟨(i : Nat), 0, ((ow.length + 1 : Nat) : Int) - 1, rfl, by omega, by omega, ?_⟩
    exact ⟨_, rfl, iteF q⟩
theorem at_own {ow : List Nat} {i : Nat} (h0 : 0 < i) (h1 : i ≤ ow.length) : atI (V.non :: ow.map num) ((i : Nat) : Int) = some (num (par ow i)) := by
  refine atI_nat ?_
  obtain ⟨j, rfl⟩ : ∃ j, i = j + 1 := ⟨i - 1, by omega⟩
  rw [List.getElem?_cons_succ, List.getElem?_map]
  have hj : j < ow.length := by omega
  unfold par
  rw [List.getD_eq_getElem?_getD, Nat.add_sub_cancel, List.getElem?_eq_getElem hj]
  rfl
theorem none_of {H H' : Hp} {p : Addr} (sm : Same H H') (h : H' p = none) : H p = none := by
  cases z : H p with
  | none => rfl
  | some u =>
    have z2 := sm _ _ z
    rw [h] at z2
    cases z2
theorem near_mem (xs ys : List Nat) : nearL xs ys = 0 ∨ nearL xs ys ∈ xs := by
  unfold nearL
  have all : ∀ (xs ys : List Nat) (c : Nat), (xs.zip ys).foldl (fun a p => if p.1 = p.2 then p.1 else a) c = c ∨ (xs.zip ys).foldl (fun a p => if p.1 = p.2 then p.1 else a) c ∈ xs := by
    intro xs
    induction xs with
    | nil =>
      intro ys c
      exact .inl (by simp)
    | cons x r ih =>
      intro ys c
      cases ys with
      | nil => exact .inl (by simp)
      | cons y s =>
        simp only [List.zip_cons_cons, List.foldl_cons]
        by_cases e : x = y
        · rw [if_pos e]
          rcases ih s x with h | h
          · exact .inr (by rw [h]; exact List.mem_cons_self)
          · exact .inr (List.mem_cons_of_mem _ h)
        · rw [if_neg e]
          rcases ih s c with h | h
          · exact .inl h
          · exact .inr (List.mem_cons_of_mem _ h)
  exact all xs ys 0
theorem near_on {ow : List Nat} (h : Low ow) (i j : Nat) : nearL (line ow i) (line ow j) ∈ line ow i := by
  rcases near_mem (line ow i) (line ow j) with e | e
  · rw [e]
    exact zero_mem h i
  · exact e
theorem near_on2 {ow : List Nat} (h : Low ow) (i j : Nat) : nearL (line ow i) (line ow j) ∈ line ow j := by
  rw [near_comm]
  exact near_on h j i
theorem near_le {ow : List Nat} (h : Low ow) (i j : Nat) : nearL (line ow i) (line ow j) ≤ i := by
  rcases near_mem (line ow i) (line ow j) with e | e
  · omega
  · exact line_le h i _ e
theorem Tr.same {H H' : Hp} {t C : Addr} {ow ds : List Nat} (tr : Tr H t C ow ds) (sm : Same H H') : Tr H' t C ow ds := by
  obtain ⟨dx, o, d, n, fs, e1, l1, l2, l3, nl, e2, e3, lf⟩ := tr.ex
  exact ⟨⟨dx, o, d, n, fs, sm _ _ e1, l1, l2, l3, nl, sm _ _ e2, sm _ _ e3, lf⟩, tr.low, tr.few, tr.deep⟩
/-- a tree with what is its own: nothing outside N is written -/
structure Tw (N : Addr → Prop) (H : Hp) (t C : Addr) (ow : List Nat) : Prop where
  ex : ∃ (dx o d n : Addr) (fs : List (Str × V)) (ns : List Addr), H t = some (.ins C dx fs) ∧ fs.lookup ("_owns" : Str) = some (.ref o) ∧ fs.lookup ("_depths" : Str) = some (.ref d) ∧ fs.lookup ("_on" : Str) = some (.ref n) ∧
    (∀ m, m ∉ fields → fs.lookup m = none) ∧ H o = some (.lst (.non :: ow.map num)) ∧ H d = some (.lst ((depths ow).map num)) ∧ H n = some (.lst (ns.map V.ref)) ∧ fs.length < 1000 ∧
    ns.length = ow.length + 1 ∧ o ≠ d ∧ o ≠ n ∧ d ≠ n ∧ (∀ a ∈ ns, (∃ ks, H a = some (.lst ks) ∧ ks.length ≤ ow.length) ∧ a ≠ o ∧ a ≠ d ∧ a ≠ n ∧ N a) ∧ N o ∧ N d ∧ N n
  low : Low ow
  few : ow.length ≤ 63
theorem Tw.tr {N : Addr → Prop} {H : Hp} {t C : Addr} {ow : List Nat} (w : Tw N H t C ow) : Tr H t C ow (depths ow) := by
  obtain ⟨dx, o, d, n, fs, ns, e1, l1, l2, l3, nl, e2, e3, e4, lf, _⟩ := w.ex
  exact ⟨⟨dx, o, d, n, fs, e1, l1, l2, l3, nl, e2, e3, lf⟩, w.low, w.few, rfl⟩
def spGrow (C : Addr) : Sp := fun vs H Q _ => ∃ (t : Addr) (ow : List Nat) (i : Nat) (N : Addr → Prop), vs = [.ref t, num i] ∧ Tw N H t C ow ∧ i ≤ ow.length ∧ ow.length < 63 ∧
  ∀ (H' : Hp) (N' : Addr → Prop), Tw N' H' t C (ow ++ [i]) → (∀ c u, ¬ N c → H c = some u → H' c = some u) → (∀ c, N' c → N c ∨ H c = none) → Q (num (ow.length + 1)) H'
theorem fn_grow {f : Addr} {fd : FuncData} (T : Txt K mg) (TC : TreeC K C) (m_many : Met P w K mg base 1 C "many" (spMany C) []) (m__need_make : Met P w K mg base 2 C "_need_make" (spNeed C) []) (F : Fun K "grow" "MakeTree.grow" s_MakeTree_grow f fd) :
    FnOk P w K mg base CX0 3 f fd ["self", "make"] (spGrow C) := by
  refine F.ok sc_MakeTree_grow (fun vs H Q E h => ?_) (fun cdv A outer s H vs Q E hr h => ?_)
  · obtain ⟨t, ow, i, N, rfl, _⟩ := h
    rfl
  · obtain ⟨t, ow, i, N, rfl, tw, hi, hf, q⟩ := h
    obtain ⟨dx, o, d, n, fs, ns, e1, l1, l2, l3, nl, e2, e3, e4, lf, hns, od, on, dn, hin, No, Nd, Nn⟩ := tw.ex
    refine ⟨_, (pss_cons (ps_expr (pe_mt m__need_make hr (by decide) (pv 0) (pa_cons (pv 1) pa_nil)))
      (pss_cons (ps_set (i := 2) sc_MakeTree_grow.nd rfl (Or.inl rfl) (pe_mt0 m_many hr (by decide) (pv 0)))
      (pss_cons (ps_if (pt_cmpR op_ge (pv 2) (pe_gi rfl T.g_MOST_MAKES) (nomark _))
          (pss_one ps_never) pss_nil)
      (pss_cons (ps_expr (pe_bm PySem.F.plainAttrs_list PySem.F.slot_list_append PySem.F.type_list_append mt_append (pe_fld (pv 0) rfl) (pa_cons (pv 1) pa_nil)))
      (pss_cons (ps_expr (pe_bm PySem.F.plainAttrs_list PySem.F.slot_list_append PySem.F.type_list_append mt_append (pe_fld (pv 0) rfl) (pa_cons (pe_op op_add (pe_ix ix_list (pe_fld (pv 0) rfl) (pv 1) (fun _ _ => rfl)) pe_int) pa_nil)))
      (pss_cons (ps_expr (pe_bm PySem.F.plainAttrs_list PySem.F.slot_list_append PySem.F.type_list_append mt_append (pe_fld (pv 0) rfl) (pa_cons (pe_lst pa_nil) pa_nil)))
      (pss_cons (ps_expr (pe_bm PySem.F.plainAttrs_list PySem.F.slot_list_append PySem.F.type_list_append mt_append (pe_ix ix_list (pe_fld (pv 0) rfl) (pv 1) (fun _ _ => rfl)) (pa_cons (pv 2) pa_nil)))
      (pss_one (ps_ret (pv 2)))))))))), ?_⟩
    refine ⟨_, rfl, t, dx, fs, rfl, e1, nl _ (by decide), _, rfl, t, ow, _, i, rfl, tw.tr, hi, ?_⟩
    refine ⟨_, rfl, t, dx, fs, rfl, e1, nl _ (by decide), t, ow, _, rfl, tw.tr, ?_⟩
    refine ⟨_, rfl, _, _, rfl, rfl, _, rfl, ?_⟩
    have hlt : ¬ ((64 : Int) ≤ ((ow.length + 1 : Nat) : Int)) := by omega
    rw [show decide ((64 : Int) ≤ ((ow.length + 1 : Nat) : Int)) = false from decide_eq_false hlt]
    refine iteF ?_
    have hto : t ≠ o := fun e => by rw [e, e2] at e1; cases e1
    have htd : t ≠ d := fun e => by rw [e, e3] at e1; cases e1
    have htn : t ≠ n := fun e => by rw [e, e4] at e1; cases e1
    have len1 : (V.non :: ow.map num).length < sizeLine := small1000 (by rw [List.length_cons, List.length_map]; omega)
    have len2 : ((depths ow).map num).length < sizeLine := small1000 (by unfold depths; rw [List.length_map, List.length_map, List.length_range]; omega)
    have len3 : (ns.map V.ref).length < sizeLine := small1000 (by rw [List.length_map]; omega)
    refine ⟨_, rfl, t, C, dx, fs, .ref o, rfl, e1, TC.cl, TC.n_owns, l1, .inl ⟨rfl, _, SqL.of e2⟩, _, rfl, o, _, _, rfl, rfl, e2, len1, ?_⟩
    have f1 : (upd H o (.lst ((V.non :: ow.map num) ++ [num i]))) t = some (.ins C dx fs) := (upd_ne hto).trans e1
    have f3 : (upd H o (.lst ((V.non :: ow.map num) ++ [num i]))) d = some (.lst ((depths ow).map num)) := (upd_ne od.symm).trans e3
    refine ⟨_, rfl, t, C, dx, fs, .ref d, rfl, f1, TC.cl, TC.n_depths, l2, .inl ⟨rfl, _, SqL.of f3⟩, _, rfl, t, C, dx, fs, .ref d, rfl, f1, TC.cl, TC.n_depths, l2, _, rfl, d, _, _, _, rfl, rfl, SqL.of f3, depths_at hi, _, _, rfl, rfl, d, _, _, rfl, rfl, f3, len2, ?_⟩
    have hpos : 0 < (line ow i).length := by
      obtain ⟨us, hu, _⟩ := line_last tw.low i
      rw [hu, List.length_append]
      exact Nat.succ_pos _
    have ev : (V.int ((((line ow i).length - 1 : Nat) : Int) + 1)) = num (line ow i).length := by
      show V.int _ = V.int _
      congr 1
      omega
    show (fun H2 => _) (upd (upd H o (.lst ((V.non :: ow.map num) ++ [num i]))) d (.lst ((depths ow).map num ++ [V.int ((((line ow i).length - 1 : Nat) : Int) + 1)])))
    rw [ev]
    have g_o : (upd (upd H o (.lst ((V.non :: ow.map num) ++ [num i]))) d (.lst ((depths ow).map num ++ [num (line ow i).length]))) o = some (.lst (.non :: (ow ++ [i]).map num)) := by
      rw [upd_ne od, upd_same, List.map_append]
      rfl
    have g_d : (upd (upd H o (.lst ((V.non :: ow.map num) ++ [num i]))) d (.lst ((depths ow).map num ++ [num (line ow i).length]))) d = some (.lst ((depths (ow ++ [i])).map num)) := by
      rw [upd_same, depths_more tw.low hi, List.map_append]
      rfl
    have g_k : ∀ c u, c ≠ o → c ≠ d → H c = some u → (upd (upd H o (.lst ((V.non :: ow.map num) ++ [num i]))) d (.lst ((depths ow).map num ++ [num (line ow i).length]))) c = some u := fun c u h1 h2 z => by
      rw [upd_ne h2, upd_ne h1]
      exact z
    have g_n : ∀ c, (upd (upd H o (.lst ((V.non :: ow.map num) ++ [num i]))) d (.lst ((depths ow).map num ++ [num (line ow i).length]))) c = none → H c = none := fun c z => upd_none (upd_none z)
    generalize upd (upd H o (.lst ((V.non :: ow.map num) ++ [num i]))) d (.lst ((depths ow).map num ++ [num (line ow i).length])) = H2 at *
    have h2t := g_k _ _ hto htd e1
    have h2n := g_k _ _ on.symm dn.symm e4
    refine ⟨_, rfl, t, C, dx, fs, .ref n, rfl, h2t, TC.cl, TC.n_on, l3, .inl ⟨rfl, _, SqL.of h2n⟩, (by show 0 ≤ sizeLine; decide), fun p hp => ?_⟩
    refine ⟨n, _, _, rfl, rfl, kep h2n hp, len3, ?_⟩
    have hpo : p ≠ o := fun e => by rw [e, g_o] at hp; cases hp
    have hpd : p ≠ d := fun e => by rw [e, g_d] at hp; cases hp
    have hpn : p ≠ n := fun e => by rw [e, h2n] at hp; cases hp
    have hpt : p ≠ t := fun e => by rw [e, h2t] at hp; cases hp
    have hi2 : i < ns.length := by omega
    obtain ⟨b, hb⟩ : ∃ b, ns[i]? = some b := ⟨_, List.getElem?_eq_getElem hi2⟩
    have hbm := List.mem_of_getElem? hb
    obtain ⟨⟨ks, hks, hkl⟩, bo, bd, bn, Nb⟩ := hin b hbm
    have hbt : b ≠ t := fun e => by rw [e, e1] at hks; cases hks
    have h2b := g_k _ _ bo bd hks
    have hbp : b ≠ p := fun e => by rw [e, hp] at h2b; cases h2b
    have h3n : (upd (upd H2 p (.lst [])) n (.lst (ns.map V.ref ++ [V.ref p]))) n = some (.lst ((ns ++ [p]).map V.ref)) := by
      rw [upd_same, List.map_append]
      rfl
    have h3t : (upd (upd H2 p (.lst [])) n (.lst (ns.map V.ref ++ [V.ref p]))) t = some (.ins C dx fs) := by
      rw [upd_ne htn, upd_ne hpt.symm]
      exact h2t
    have h3b : (upd (upd H2 p (.lst [])) n (.lst (ns.map V.ref ++ [V.ref p]))) b = some (.lst ks) := by
      rw [upd_ne bn, upd_ne hbp]
      exact h2b
    have h3p : (upd (upd H2 p (.lst [])) n (.lst (ns.map V.ref ++ [V.ref p]))) p = some (.lst []) := by
      rw [upd_ne hpn, upd_same]
    have h3k : ∀ c u, c ≠ n → c ≠ p → H2 c = some u → (upd (upd H2 p (.lst [])) n (.lst (ns.map V.ref ++ [V.ref p]))) c = some u := fun c u h1 h2 z => by
      rw [upd_ne h1, upd_ne h2]
      exact z
    generalize upd (upd H2 p (.lst [])) n (.lst (ns.map V.ref ++ [V.ref p])) = H3 at *
    have hat : atI ((ns ++ [p]).map V.ref) ((i : Nat) : Int) = some (V.ref b) := by
      refine atI_nat ?_
      rw [List.getElem?_map, List.getElem?_append_left hi2, hb]
      rfl
    refine ⟨_, rfl, t, C, dx, fs, .ref n, rfl, h3t, TC.cl, TC.n_on, l3, _, rfl, n, _, _, _, rfl, rfl, SqL.of h3n, hat, .inl ⟨rfl, _, SqL.of h3b⟩, _, rfl, b, _, _, rfl, rfl, h3b, small1000 (by omega), ?_⟩
    refine ⟨_, rfl, q _ (fun c => N c ∨ c = p) ⟨⟨dx, o, d, n, fs, ns ++ [p], ?_, l1, l2, l3, nl, ?_, ?_, ?_, lf, ?_, od, on, dn, fun c hc => ?_, .inl No, .inl Nd, .inl Nn⟩, low_more tw.low hi, ?_⟩ (fun c u hc z => ?_) fun c hc => ?_⟩
    · rw [upd_ne hbt.symm]
      exact h3t
    · rw [upd_ne bo.symm]
      exact h3k _ _ on hpo.symm g_o
    · rw [upd_ne bd.symm]
      exact h3k _ _ dn hpd.symm g_d
    · rw [upd_ne bn.symm]
      exact h3n
    · rw [List.length_append, List.length_append, hns]
      rfl
    · rcases List.mem_append.mp hc with hc | hc
      · obtain ⟨⟨ls, hls, hll⟩, co, cd, cn, Nc⟩ := hin c hc
        refine ⟨?_, co, cd, cn, .inl Nc⟩
        rw [List.length_append]
        by_cases e : c = b
        · subst e
          rw [hks] at hls
          cases hls
          refine ⟨_, upd_same, ?_⟩
          rw [List.length_append]
          exact Nat.add_le_add_right hll 1
        · refine ⟨ls, ?_, Nat.le_succ_of_le hll⟩
          rw [upd_ne e]
          have h2c := g_k _ _ co cd hls
          exact h3k _ _ cn (fun z => by rw [z, hp] at h2c; cases h2c) h2c
      · rw [List.mem_singleton.mp hc]
        refine ⟨⟨[], ?_, Nat.zero_le _⟩, hpo, hpd, hpn, .inr rfl⟩
        rw [upd_ne hbp.symm]
        exact h3p
    · rw [List.length_append]
      show ow.length + 1 ≤ 63
      omega
    · have c1 : c ≠ o := fun e => hc (e ▸ No)
      have c2 : c ≠ d := fun e => hc (e ▸ Nd)
      have c3 : c ≠ n := fun e => hc (e ▸ Nn)
      have c4 : c ≠ b := fun e => hc (e ▸ Nb)
      have h2c := g_k _ _ c1 c2 z
      rw [upd_ne c4]
      exact h3k _ _ c3 (fun z => by rw [z, hp] at h2c; cases h2c) h2c
    · rcases hc with hc | hc
      · exact .inl hc
      · rw [hc]
        exact .inr (g_n _ hp)
theorem ok_grow (T : Txt K mg) (TC : TreeC K C) (m_many : Met P w K mg base 1 C "many" (spMany C) []) (m__need_make : Met P w K mg base 2 C "_need_make" (spNeed C) []) (M : MAt K C "grow" "MakeTree.grow" s_MakeTree_grow ["self", "make"]) :
    Met P w K mg base 3 C "grow" (spGrow C) [] := by
  obtain ⟨f, fd, F, me, b⟩ := M.ex
  exact ⟨f, fd, _, [], TC.cl, me, fn_grow T TC m_many m__need_make F, b, .nil⟩
def spInit (C : Addr) : Sp := fun vs H Q _ => ∃ (t dx : Addr), vs = [.ref t] ∧ H t = some (.ins C dx []) ∧
  ∀ (H' : Hp) (N' : Addr → Prop), Tw N' H' t C [] → (∃ fs, H' t = some (.ins C dx fs) ∧ fs.length ≤ 3 ∧ fs.lookup ("_leaps" : Str) = none) → (∀ c u, c ≠ t → H c = some u → H' c = some u) → (∀ c, N' c → H c = none) → Q .non H'
theorem fn_init {f : Addr} {fd : FuncData} (T : Txt K mg) (TC : TreeC K C) (F : Fun K "__init__" "MakeTree.__init__" s_MakeTree___init__ f fd) : FnOk P w K mg base CX0 1 f fd ["self"] (spInit C) := by
  refine F.ok sc_MakeTree___init__ (fun vs H Q E h => ?_) (fun cdv A outer s H vs Q E hr h => ?_)
  · obtain ⟨t, dx, rfl, _⟩ := h
    rfl
  · obtain ⟨t, dx, rfl, e1, q⟩ := h
    refine ⟨_, (pss_cons (ps_fld (pv 0) (pe_lst (pa_cons pe_non pa_nil)) rfl)
      (pss_cons (ps_fld (pv 0) (pe_lst (pa_cons pe_int pa_nil)) rfl)
      (pss_one (ps_fld (pv 0) (pe_lst (pa_cons (pe_lst pa_nil) pa_nil)) rfl)))), ?_⟩
    refine ⟨(by show 1 ≤ sizeLine; decide), fun o ho => ?_⟩
    have hto : t ≠ o := fun e => by rw [← e, e1] at ho; cases ho
    refine ⟨_, rfl, t, C, dx, [], rfl, kep e1 ho, TC.cl, TC.n_owns, by decide, ?_⟩
    have k1 : ∀ c u, c ≠ t → H c = some u → (upd (upd H o (.lst [V.non])) t (.ins C dx (putF "_owns" (.ref o) []))) c = some u := fun c u h z => by
      rw [upd_ne h]
      exact kep z ho
    have n1 : ∀ c, (upd (upd H o (.lst [V.non])) t (.ins C dx (putF "_owns" (.ref o) []))) c = none → H c = none := fun c z => upd_none (upd_none z)
    have a1t : (upd (upd H o (.lst [V.non])) t (.ins C dx (putF "_owns" (.ref o) []))) t = some (.ins C dx (putF "_owns" (.ref o) [])) := upd_same
    have a1o : (upd (upd H o (.lst [V.non])) t (.ins C dx (putF "_owns" (.ref o) []))) o = some (.lst [V.non]) := by
      rw [upd_ne hto.symm, upd_same]
    generalize hA1 : upd (upd H o (.lst [V.non])) t (.ins C dx (putF "_owns" (.ref o) [])) = A1 at *
    refine ⟨(by show 1 ≤ sizeLine; decide), fun d hd => ?_⟩
    have htd : t ≠ d := fun e => by rw [← e, a1t] at hd; cases hd
    have hod : o ≠ d := fun e => by rw [← e, a1o] at hd; cases hd
    have p1 : (putF "_owns" (.ref o) ([] : List (Str × V))).length ≤ 1 := length_putF _ _ _
    refine ⟨_, rfl, t, C, dx, _, rfl, kep a1t hd, TC.cl, TC.n_depths, Nat.lt_of_le_of_lt p1 (by decide), ?_⟩
    have k2 : ∀ c u, c ≠ t → A1 c = some u → (upd (upd A1 d (.lst [V.int 0])) t (.ins C dx (putF "_depths" (.ref d) (putF "_owns" (.ref o) [])))) c = some u := fun c u h z => by
      rw [upd_ne h]
      exact kep z hd
    have n2 : ∀ c, (upd (upd A1 d (.lst [V.int 0])) t (.ins C dx (putF "_depths" (.ref d) (putF "_owns" (.ref o) [])))) c = none → A1 c = none := fun c z => upd_none (upd_none z)
    have a2t : (upd (upd A1 d (.lst [V.int 0])) t (.ins C dx (putF "_depths" (.ref d) (putF "_owns" (.ref o) [])))) t = some (.ins C dx (putF "_depths" (.ref d) (putF "_owns" (.ref o) []))) := upd_same
    have a2d : (upd (upd A1 d (.lst [V.int 0])) t (.ins C dx (putF "_depths" (.ref d) (putF "_owns" (.ref o) [])))) d = some (.lst [V.int 0]) := by
      rw [upd_ne htd.symm, upd_same]
    have a2o := k2 _ _ hto.symm a1o
    generalize hA2 : (upd (upd A1 d (.lst [V.int 0])) t (.ins C dx (putF "_depths" (.ref d) (putF "_owns" (.ref o) [])))) = A2 at *
    refine ⟨(by show 0 ≤ sizeLine; decide), fun a ha => ⟨(by show 1 ≤ sizeLine; decide), fun n hn => ?_⟩⟩
    have hn2 : A2 n = none := upd_none hn
    have hta : t ≠ a := fun e => by rw [← e, a2t] at ha; cases ha
    have htn : t ≠ n := fun e => by rw [← e, a2t] at hn2; cases hn2
    have hda : d ≠ a := fun e => by rw [← e, a2d] at ha; cases ha
    have hdn : d ≠ n := fun e => by rw [← e, a2d] at hn2; cases hn2
    have hoa : o ≠ a := fun e => by rw [← e, a2o] at ha; cases ha
    have hon : o ≠ n := fun e => by rw [← e, a2o] at hn2; cases hn2
    have han : a ≠ n := fun e => by
      rw [← e, upd_same] at hn
      cases hn
    have p2 : (putF "_depths" (.ref d) (putF "_owns" (.ref o) ([] : List (Str × V)))).length ≤ 2 := Nat.le_trans (length_putF _ _ _) (Nat.succ_le_succ p1)
    refine ⟨_, rfl, t, C, dx, _, rfl, kep (kep a2t ha) hn, TC.cl, TC.n_on, Nat.lt_of_le_of_lt p2 (by decide), ?_⟩
    have p3 : (putF "_on" (.ref n) (putF "_depths" (.ref d) (putF "_owns" (.ref o) ([] : List (Str × V))))).length ≤ 3 := Nat.le_trans (length_putF _ _ _) (Nat.succ_le_succ p2)
    have k3 : ∀ c u, c ≠ t → A2 c = some u → (upd (upd (upd A2 a (.lst [])) n (.lst [V.ref a])) t (.ins C dx (putF "_on" (.ref n) (putF "_depths" (.ref d) (putF "_owns" (.ref o) []))))) c = some u := fun c u h z => by
      rw [upd_ne h]
      exact kep (kep z ha) hn
    have a3t : (upd (upd (upd A2 a (.lst [])) n (.lst [V.ref a])) t (.ins C dx (putF "_on" (.ref n) (putF "_depths" (.ref d) (putF "_owns" (.ref o) []))))) t = some (.ins C dx (putF "_on" (.ref n) (putF "_depths" (.ref d) (putF "_owns" (.ref o) [])))) := upd_same
    have a3n : (upd (upd (upd A2 a (.lst [])) n (.lst [V.ref a])) t (.ins C dx (putF "_on" (.ref n) (putF "_depths" (.ref d) (putF "_owns" (.ref o) []))))) n = some (.lst [V.ref a]) := by
      rw [upd_ne htn.symm, upd_same]
    have a3a : (upd (upd (upd A2 a (.lst [])) n (.lst [V.ref a])) t (.ins C dx (putF "_on" (.ref n) (putF "_depths" (.ref d) (putF "_owns" (.ref o) []))))) a = some (.lst []) := by
      rw [upd_ne hta.symm, upd_ne han, upd_same]
    refine q _ (fun c => c = o ∨ c = d ∨ c = n ∨ c = a) ⟨⟨dx, o, d, n, _, [a], a3t, ?_, ?_, ?_, fun m hm => ?_, k3 _ _ hto.symm a2o, k3 _ _ htd.symm a2d, a3n, Nat.lt_of_le_of_lt p3 (by decide), rfl, hod, hon, hdn, fun c hc => ?_, .inl rfl, .inr (.inl rfl), .inr (.inr (.inl rfl))⟩, (fun _ _ z => nomatch z), Nat.zero_le _⟩ ⟨_, a3t, p3, ?_⟩ (fun c u hc z => k3 _ _ hc (k2 _ _ hc (k1 _ _ hc z))) fun c hc => ?_
    · rw [lookup_putF, if_neg (by decide), lookup_putF, if_neg (by decide), lookup_putF, if_pos rfl]
    · rw [lookup_putF, if_neg (by decide), lookup_putF, if_pos rfl]
    · rw [lookup_putF, if_pos rfl]
    · have hm2 : m ≠ "_on" ∧ m ≠ "_depths" ∧ m ≠ "_owns" := ⟨fun e => hm (by rw [e]; decide), fun e => hm (by rw [e]; decide), fun e => hm (by rw [e]; decide)⟩
      rw [lookup_putF, if_neg hm2.1, lookup_putF, if_neg hm2.2.1, lookup_putF, if_neg hm2.2.2]
      rfl
    · rw [List.mem_singleton.mp hc]
      exact ⟨⟨[], a3a, Nat.zero_le _⟩, hoa.symm, hda.symm, han, .inr (.inr (.inr rfl))⟩
    · rw [lookup_putF, if_neg (by decide), lookup_putF, if_neg (by decide), lookup_putF, if_neg (by decide)]
      rfl
    · rcases hc with rfl | rfl | rfl | rfl
      · exact ho
      · exact n1 _ hd
      · exact n1 _ (n2 _ hn2)
      · exact n1 _ (n2 _ ha)
end
end K18.Lf
set_option maxHeartbeats 1000000
namespace K18.Lf
open PySem PySem.Spec PyProof.Rows L2 Gd Gs
open C8 (clsBody Met pe_mt pe_mt0)
def dep (ow : List Nat) (i : Nat) : Nat := (line ow i).length - 1
theorem line_pos {ow : List Nat} (h : Low ow) (i : Nat) : 0 < (line ow i).length := by
  obtain ⟨us, hu, _⟩ := line_last h i
  rw [hu, List.length_append]
  exact Nat.succ_pos _
theorem dep_len {ow : List Nat} (h : Low ow) (i : Nat) : (line ow i).length = dep ow i + 1 := by
  have := line_pos h i
  unfold dep
  omega
theorem at_line {ow : List Nat} (h : Low ow) : ∀ (i j x : Nat), (line ow i)[j]? = some x → line ow x = (line ow i).take (j + 1) := by
  intro i
  induction i using Nat.strongRecOn with
  | _ i ih =>
    intro j x hx
    by_cases h0 : 0 < i
    · rw [line_step h h0] at hx ⊢
      by_cases hj : j < (line ow (par ow i)).length
      · rw [List.getElem?_append_left hj] at hx
        rw [ih _ (par_lt h h0) j x hx, List.take_append_of_le_length (by omega)]
      · rw [List.getElem?_append_right (by omega)] at hx
        by_cases hz : j - (line ow (par ow i)).length = 0
        · rw [hz] at hx
          have e : i = x := Option.some.inj hx
          subst e
          rw [List.take_of_length_le, line_step h h0]
          rw [List.length_append]
          show _ + 1 ≤ _
          omega
        · rw [List.getElem?_eq_none (by show 1 ≤ _; omega)] at hx
          cases hx
    · have e : i = 0 := by omega
      subst e
      rw [line_zero] at hx ⊢
      cases j with
      | zero =>
        have e : 0 = x := Option.some.inj hx
        subst e
        rfl
      | succ j => cases hx
/-- the make so many steps above -/
def upL (ow : List Nat) (i s : Nat) : Nat := (line ow i).getD (dep ow i - s) 0
theorem up_at {ow : List Nat} (low : Low ow) (i s : Nat) : (line ow i)[dep ow i - s]? = some (upL ow i s) := by
  have hl := dep_len low i
  unfold upL
  rw [List.getD_eq_getElem?_getD]
  have h2 : dep ow i - s < (line ow i).length := by omega
  rw [List.getElem?_eq_getElem h2]
  rfl
theorem up_le {ow : List Nat} (low : Low ow) (i s : Nat) : upL ow i s ≤ i := line_le low i _ (List.mem_of_getElem? (up_at low i s))
theorem dep_up {ow : List Nat} (low : Low ow) {i s : Nat} (hs : s ≤ dep ow i) : dep ow (upL ow i s) = dep ow i - s := by
  have e := at_line low i _ _ (up_at low i s)
  have hl := dep_len low i
  unfold dep at *
  rw [e, List.length_take]
  omega
theorem up_up {ow : List Nat} (low : Low ow) {i a b : Nat} (h : a + b ≤ dep ow i) : upL ow (upL ow i a) b = upL ow i (a + b) := by
  have e := at_line low i _ _ (up_at low i a)
  have hd := dep_up low (by omega : a ≤ dep ow i)
  have hl := dep_len low i
  unfold upL at hd e ⊢
  rw [hd, e, List.getD_eq_getElem?_getD, List.getD_eq_getElem?_getD, List.getElem?_take, if_pos (by omega)]
  congr 2
  omega
def nb (d : Nat) : Nat := if d = 0 then 0 else d.log2 + 1
theorem nb_lt {d k : Nat} : k < nb d ↔ 2 ^ k ≤ d := by
  unfold nb
  by_cases e : d = 0
  · rw [if_pos e, e]
    have : 0 < 2 ^ k := Nat.two_pow_pos k
    omega
  · rw [if_neg e, ← Nat.le_log2 e]
    omega
def leapsL (ow : List Nat) (i : Nat) : List Nat := (List.range (nb (dep ow i))).map fun k => upL ow i (2 ^ k)
theorem leaps_len (ow : List Nat) (i : Nat) : (leapsL ow i).length = nb (dep ow i) := by
  unfold leapsL
  rw [List.length_map, List.length_range]
theorem leaps_at {ow : List Nat} {i k : Nat} (h : 2 ^ k ≤ dep ow i) : (leapsL ow i)[k]? = some (upL ow i (2 ^ k)) := by
  unfold leapsL
  rw [List.getElem?_map, List.getElem?_range (nb_lt.mpr h)]
  rfl
theorem nb_few {d : Nat} (h : d ≤ 63) : nb d ≤ 6 := by
  by_cases z : nb d ≤ 6
  · exact z
  · have := (nb_lt (d := d) (k := 6)).mp (by omega)
    omega
theorem dep_le {ow : List Nat} (h : Low ow) (i : Nat) : dep ow i ≤ i := by
  have := line_len h i
  unfold dep
  omega
theorem line_more' {ow : List Nat} (h : Low ow) {k : Nat} (hk : k ≤ ow.length) {x : Nat} (hx : x ≤ ow.length) : leapsL (ow ++ [k]) x = leapsL ow x := by
  unfold leapsL upL dep
  rw [line_more h hk x hx]
/-- the leaps of a new make -/
theorem leaps_new {ow : List Nat} (h : Low ow) {own k : Nat} (hk : own ≤ ow.length) (h1 : 2 ^ k ≤ dep ow own + 1) (h2 : ¬ 2 ^ (k + 1) ≤ dep ow own + 1) :
    leapsL (ow ++ [own]) (ow.length + 1) = (List.range (k + 1)).map fun j => upL ow own (2 ^ j - 1) := by
  have hl : line (ow ++ [own]) (ow.length + 1) = line ow own ++ [ow.length + 1] := line_new h hk
  have hd : dep (ow ++ [own]) (ow.length + 1) = dep ow own + 1 := by
    have := dep_len h own
    unfold dep at *
    rw [hl, List.length_append]
    show _ + 1 - 1 = _
    omega
  have hn : nb (dep ow own + 1) = k + 1 := by
    have a := (nb_lt (d := dep ow own + 1) (k := k)).mpr h1
    have b : ¬ k + 1 < nb (dep ow own + 1) := fun z => h2 (nb_lt.mp z)
    omega
  unfold leapsL
  rw [hd, hn]
  refine List.map_congr_left fun j hj => ?_
  have hj2 := List.mem_range.mp hj
  have hp : 0 < 2 ^ j := Nat.two_pow_pos j
  have hle : 2 ^ j ≤ dep ow own + 1 := Nat.le_trans (Nat.pow_le_pow_right (by decide) (by omega)) h1
  have hlen := dep_len h own
  unfold upL
  rw [hd, hl, List.getD_eq_getElem?_getD, List.getD_eq_getElem?_getD, List.getElem?_append_left (by omega)]
  congr 2
  omega
/-- the lists of leaps -/
structure Lv (N : Addr → Prop) (H : Hp) (q : Addr) (ow : List Nat) : Prop where
  ex : ∃ ls : List Addr, H q = some (.lst (ls.map V.ref)) ∧ ls.length = ow.length + 1 ∧ N q ∧
    ∀ (i : Nat) (a : Addr), ls[i]? = some a → N a ∧ a ≠ q ∧ H a = some (.lst ((leapsL ow i).map num))
/-- a tree that leaps -/
structure Lw (C : Addr) (N : Addr → Prop) (H : Hp) (t : Addr) (ow : List Nat) : Prop where
  ex : ∃ (N1 N2 : Addr → Prop) (dx q : Addr) (fs : List (Str × V)), Tw N1 H t C ow ∧ H t = some (.ins C dx fs) ∧ fs.lookup ("_leaps" : Str) = some (.ref q) ∧ Lv N2 H q ow ∧
    (∀ c, N1 c → N2 c → False) ∧ (∀ c, N1 c → N c) ∧ (∀ c, N2 c → N c)
theorem Lw.tr {C t : Addr} {N : Addr → Prop} {H : Hp} {ow : List Nat} (l : Lw C N H t ow) : Tr H t C ow (depths ow) := by
  obtain ⟨N1, N2, dx, q, fs, tw, _⟩ := l.ex
  exact tw.tr
section
variable {P : Program} {w : World} {K : PySem.W.Frag} {mg : Str → Option Value} {base : Heap} {C : Addr}
def spThrough (C : Addr) : Sp := fun vs H Q _ => ∃ (t dx q : Addr) (fs : List (Str × V)) (ow : List Nat) (own : Nat) (N : Addr → Prop), vs = [.ref t, num own] ∧ H t = some (.ins C dx fs) ∧ fs.lookup ("_leaps" : Str) = some (.ref q) ∧ Lv N H q ow ∧
  Low ow ∧ own ≤ ow.length ∧ ow.length < 63 ∧ ∀ (p : Addr) (H' : Hp), H p = none → Same H H' → H' p = some (.lst ((leapsL (ow ++ [own]) (ow.length + 1)).map num)) → Q (.ref p) H'
theorem ok_through (T : Txt K mg) (TC : TreeC K C) (M : MAt K C "_leaps_through" "LeapTree._leaps_through" s_LeapTree__leaps_through ["self", "own"]) : Met P w K mg base 1 C "_leaps_through" (spThrough C) [] := by
  refine M.met TC.cl sc_LeapTree__leaps_through (fun vs H Q E h => ?_) (fun f cdv A outer s H vs Q E hr h => ?_)
  · obtain ⟨t, dx, q, fs, ow, own, N, rfl, _⟩ := h
    rfl
  · obtain ⟨t, dx, q, fs, ow, own, N, rfl, e1, l1, lv, low, ho, hn, qq⟩ := h
    obtain ⟨ls, e2, hl, Nq, hls⟩ := lv.ex
    have hdo := dep_le low own
    refine ⟨_, (pss_cons (ps_set (i := 2) sc_LeapTree__leaps_through.nd rfl (Or.inl rfl) (pe_lst (pa_cons (pv 1) pa_nil)))
      (pss_cons (ps_while PassesOwn.never (pt_cmpR op_ge (pe_callB call_len (by rfl) T.b_len boot_len_ (pa_cons (pe_ix ix_list (pe_fld (pv 0) rfl) (pe_ix ix_list (pv 2) (pe_un un_neg pe_int) (fun _ _ => rfl)) (fun _ _ => rfl)) pa_nil)) (pe_callB call_len (by rfl) T.b_len boot_len_ (pa_cons (pv 2) pa_nil)) (nomark _))
          (pss_one (ps_expr (pe_bm PySem.F.plainAttrs_list PySem.F.slot_list_append PySem.F.type_list_append mt_append (pv 2) (pa_cons (pe_ix ix_list (pe_ix ix_list (pe_fld (pv 0) rfl) (pe_ix ix_list (pv 2) (pe_un un_neg pe_int) (fun _ _ => rfl)) (fun _ _ => rfl)) (pe_op op_sub (pe_callB call_len (by rfl) T.b_len boot_len_ (pa_cons (pv 2) pa_nil)) pe_int) (fun _ _ => rfl)) pa_nil)))))
      (pss_one (ps_ret (pv 2))))), ?_⟩
    refine ⟨_, rfl, (by show 1 ≤ sizeLine; decide), fun l hl0 => ?_⟩
    have e0 : [num own] = ((List.range 1).map fun j => upL ow own (2 ^ j - 1)).map num := by
      show [num own] = [num (upL ow own 0)]
      have h1 := up_at low own 0
      have h2 : (line ow own)[dep ow own - 0]? = some own := by
        obtain ⟨us, hu, _⟩ := line_last low own
        have := dep_len low own
        rw [hu, List.length_append] at this
        have e3 : dep ow own - 0 = us.length := by
          have e4 : ([own] : List Nat).length = 1 := rfl
          rw [e4] at this
          omega
        rw [e3, hu, List.getElem?_append_right (Nat.le_refl _), Nat.sub_self]
        rfl
      rw [h1] at h2
      rw [Option.some.inj h2]
    refine ⟨fun m σ H' => Same H H' ∧ ∃ k : Nat, m = 64 - k ∧ 2 ^ k ≤ dep ow own + 1 ∧ σ = [some (.ref t), some (num own), some (.ref l)] ∧ H' l = some (.lst (((List.range (k + 1)).map fun j => upL ow own (2 ^ j - 1)).map num)), ⟨64, same_new hl0, 0, rfl, by omega, rfl, (by rw [upd_same]; exact congrArg _ (congrArg _ e0))⟩, ?_⟩
    rintro m σ H' ⟨sm, k, rfl, hk, rfl, hL⟩
    have hk64 : k < 64 := by
      have := Nat.lt_two_pow_self (n := k)
      omega
    have hp : 0 < 2 ^ k := Nat.two_pow_pos k
    have hlen : (((List.range (k + 1)).map fun j => upL ow own (2 ^ j - 1)).map num).length = k + 1 := by rw [List.length_map, List.length_map, List.length_range]
    have hlast : atI (((List.range (k + 1)).map fun j => upL ow own (2 ^ j - 1)).map num) (-1) = some (num (upL ow own (2 ^ k - 1))) := by
      rw [List.range_succ, List.map_append, List.map_append]
      exact atI_last _ _
    have hxle := up_le low own (2 ^ k - 1)
    have hdx := dep_up low (i := own) (s := 2 ^ k - 1) (by omega)
    obtain ⟨a, ha⟩ : ∃ a, ls[upL ow own (2 ^ k - 1)]? = some a := ⟨_, List.getElem?_eq_getElem (by omega)⟩
    obtain ⟨Na, aq, hks⟩ := hls _ a ha
    have hata : atI (ls.map V.ref) ((upL ow own (2 ^ k - 1) : Nat) : Int) = some (V.ref a) := by
      refine atI_nat ?_
      rw [List.getElem?_map, ha]
      rfl
    have hA := sm _ _ hks
    refine ⟨_, rfl, t, C, dx, fs, .ref q, rfl, sm _ _ e1, TC.cl, TC.n_leaps, l1, _, rfl, _, rfl, l, _, _, _, rfl, rfl, SqL.of hL, hlast, ?_⟩
    refine ⟨q, _, _, _, rfl, rfl, SqL.of (sm _ _ e2), hata, ?_⟩
    refine ⟨.ref a, _, rfl, .inl ⟨_, SqL.of hA, rfl⟩, ?_⟩
    refine ⟨_, rfl, .ref l, _, rfl, .inl ⟨_, SqL.of hL, rfl⟩, _, _, rfl, rfl, _, rfl, ?_⟩
    rw [hlen, List.length_map, leaps_len, hdx]
    refine ite2 (fun hge => ?_) (fun hge => ?_)
    · have h2 : k < nb (dep ow own - (2 ^ k - 1)) := by
        have := of_decide_eq_true hge
        omega
      have h3 := nb_lt.mp h2
      have h4 : 2 ^ (k + 1) ≤ dep ow own + 1 := by
        rw [Nat.pow_succ]
        omega
      have hat2 : atI ((leapsL ow (upL ow own (2 ^ k - 1))).map num) ((k : Nat) : Int) = some (num (upL ow own (2 ^ (k + 1) - 1))) := by
        refine atI_nat ?_
        rw [List.getElem?_map, leaps_at (by rw [hdx]; exact h3), up_up low (by rw [Nat.pow_succ] at h4; omega)]
        show some (num _) = some (num _)
        congr 3
        rw [Nat.pow_succ]
        omega
      refine ⟨fun σ' H'' => ∃ m', m' < 64 - k ∧ Same H H'' ∧ ∃ k : Nat, m' = 64 - k ∧ 2 ^ k ≤ dep ow own + 1 ∧ σ' = [some (.ref t), some (num own), some (.ref l)] ∧ H'' l = some (.lst (((List.range (k + 1)).map fun j => upL ow own (2 ^ j - 1)).map num)), fun σ' H'' z => z, ?_⟩
      refine ⟨_, rfl, .inl ⟨rfl, _, SqL.of hL⟩, ?_⟩
      refine ⟨_, rfl, t, C, dx, fs, .ref q, rfl, sm _ _ e1, TC.cl, TC.n_leaps, l1, _, rfl, _, rfl, l, _, _, _, rfl, rfl, SqL.of hL, hlast, ?_⟩
      refine ⟨q, _, _, _, rfl, rfl, SqL.of (sm _ _ e2), hata, ?_⟩
      refine ⟨_, rfl, .ref l, _, rfl, .inl ⟨_, SqL.of hL, rfl⟩, _, _, rfl, rfl, ?_⟩
      have ek : (((((List.range (k + 1)).map fun j => upL ow own (2 ^ j - 1)).map num).length : Nat) : Int) - 1 = ((k : Nat) : Int) := by
        rw [hlen]
        omega
      refine ⟨a, _, _, _, rfl, rfl, SqL.of hA, (by rw [ek]; exact hat2), ?_⟩
      refine ⟨l, _, _, rfl, rfl, hL, ?_, 64 - (k + 1), by omega, fun c u z => ?_, k + 1, rfl, h4, rfl, ?_⟩
      · rw [hlen]
        exact small1000 (by omega)
      · rw [upd_ne (ne_of_none z hl0)]
        exact sm c u z
      · rw [upd_same, List.range_succ (n := k + 1), List.map_append, List.map_append]
        rfl
    · have h2 : ¬ 2 ^ (k + 1) ≤ dep ow own + 1 := fun z => hge (decide_eq_true (by
        have : k < nb (dep ow own - (2 ^ k - 1)) := nb_lt.mpr (by rw [Nat.pow_succ] at z; omega)
        omega))
      refine ⟨_, rfl, qq l _ hl0 sm ?_⟩
      rw [hL, leaps_new low ho hk h2]
end
end K18.Lf
set_option maxHeartbeats 1000000
namespace K18.Lf
open PySem PySem.Spec PyProof.Rows L2 Gd Gs
open NdefX (NScope nscope_by ncx startF NF)
open C8 (clsBody Met pe_mt pe_mt0)
theorem Tw.cut {N : Addr → Prop} {H : Hp} {t C : Addr} {ow : List Nat} (w : Tw N H t C ow) : Tw (fun c => N c ∧ c ≠ t ∧ H c ≠ none) H t C ow := by
  obtain ⟨dx, o, d, n, fs, ns, e1, l1, l2, l3, nl, e2, e3, e4, lf, hns, od, on, dn, hin, No, Nd, Nn⟩ := w.ex
  refine ⟨⟨dx, o, d, n, fs, ns, e1, l1, l2, l3, nl, e2, e3, e4, lf, hns, od, on, dn, fun a ha => ?_, ⟨No, fun e => ?_, fun e => ?_⟩, ⟨Nd, fun e => ?_, fun e => ?_⟩, ⟨Nn, fun e => ?_, fun e => ?_⟩⟩, w.low, w.few⟩
  · obtain ⟨⟨ks, h1, h2⟩, a1, a2, a3, a4⟩ := hin a ha
    refine ⟨⟨ks, h1, h2⟩, a1, a2, a3, a4, fun e => ?_, fun e => ?_⟩
    · rw [e, e1] at h1
      cases h1
    · rw [e] at h1
      cases h1
  · rw [e, e1] at e2
    cases e2
  · rw [e] at e2
    cases e2
  · rw [e, e1] at e3
    cases e3
  · rw [e] at e3
    cases e3
  · rw [e, e1] at e4
    cases e4
  · rw [e] at e4
    cases e4
theorem Tw.kp {N : Addr → Prop} {H H' : Hp} {t C : Addr} {ow : List Nat} (w : Tw N H t C ow) (k : ∀ c u, (N c ∨ c = t) → H c = some u → H' c = some u) : Tw N H' t C ow := by
  obtain ⟨dx, o, d, n, fs, ns, e1, l1, l2, l3, nl, e2, e3, e4, lf, hns, od, on, dn, hin, No, Nd, Nn⟩ := w.ex
  refine ⟨⟨dx, o, d, n, fs, ns, k _ _ (.inr rfl) e1, l1, l2, l3, nl, k _ _ (.inl No) e2, k _ _ (.inl Nd) e3, k _ _ (.inl Nn) e4, lf, hns, od, on, dn, fun a ha => ?_, No, Nd, Nn⟩, w.low, w.few⟩
  obtain ⟨⟨ks, h1, h2⟩, a1, a2, a3, a4⟩ := hin a ha
  exact ⟨⟨ks, k _ _ (.inl a4) h1, h2⟩, a1, a2, a3, a4⟩
theorem Tw.put {N : Addr → Prop} {H H' : Hp} {t C dx : Addr} {ow : List Nat} {fs fs' : List (Str × V)} (w : Tw N H t C ow) (k : ∀ c u, c ≠ t → H c = some u → H' c = some u)
    (e : H t = some (.ins C dx fs)) (e' : H' t = some (.ins C dx fs')) (hl : fs'.length < 1000) (hf : ∀ m : Str, m ≠ "_leaps" → fs'.lookup m = fs.lookup m) : Tw N H' t C ow := by
  obtain ⟨dx2, o, d, n, fs2, ns, e1, l1, l2, l3, nl, e2, e3, e4, lf, hns, od, on, dn, hin, No, Nd, Nn⟩ := w.ex
  rw [e] at e1
  cases e1
  have no : o ≠ t := fun z => by rw [z, e] at e2; cases e2
  have nd : d ≠ t := fun z => by rw [z, e] at e3; cases e3
  have nn : n ≠ t := fun z => by rw [z, e] at e4; cases e4
  refine ⟨⟨dx, o, d, n, fs', ns, e', (hf _ (by decide)).trans l1, (hf _ (by decide)).trans l2, (hf _ (by decide)).trans l3, fun m hm => (hf m fun z => hm (by rw [z]; decide)).trans (nl m hm), k _ _ no e2, k _ _ nd e3, k _ _ nn e4, hl, hns, od, on, dn, fun a ha => ?_, No, Nd, Nn⟩, w.low, w.few⟩
  obtain ⟨⟨ks, h1, h2⟩, a1, a2, a3, a4⟩ := hin a ha
  exact ⟨⟨ks, k _ _ (fun z => by rw [z, e] at h1; cases h1) h1, h2⟩, a1, a2, a3, a4⟩
theorem Lv.mono {N N' : Addr → Prop} {H H' : Hp} {q : Addr} {n : List Nat} (l : Lv N H q n) (hn : ∀ c, N c → N' c) (k : ∀ c u, N c → H c = some u → H' c = some u) : Lv N' H' q n := by
  obtain ⟨ls, h1, h2, h3, h4⟩ := l.ex
  refine ⟨ls, k _ _ h3 h1, h2, hn _ h3, fun i a ha => ?_⟩
  obtain ⟨a1, a2, a3⟩ := h4 i a ha
  exact ⟨hn _ a1, a2, k _ _ a1 a3⟩
/-- a method of C that begins with super().m, g above it -/
structure SAt (P : Program) (K : PySem.W.Frag) (C : Addr) (m qual : Str) (st : Stmt) (ps : List Str) (g : Addr) : Prop where
  ex : ∃ (f cc c : Addr) (oc : Value) (od : Option Addr) (doc pm : Value) (an : Option Addr) (ct : Value) (osl : Array (Option Value)),
    SupTxt P K C C f g cc ⟨m, qual, defArgs st, defBody st, defScope st, [(("__class__" : Str), cc)], c⟩ m ∧
    K.lookup f = some ⟨oc, od, .func (PySem.W.ksFn m qual (defArgs st) (defBody st) (defScope st) .none .none doc pm an (.ref c) ct cc), osl⟩ ∧ Meth K C m f ∧
    Binds K (PySem.W.ksFn m qual (defArgs st) (defBody st) (defScope st) .none .none doc pm an (.ref c) ct cc) ps []
theorem ns_grow : NScope ["self", "make", "__class__", "number"] ["self", "make"] ["__class__"] (defScope s_LeapTree_grow) := nscope_by (by decide +kernel)
theorem ns_init : NScope ["self", "__class__"] ["self"] ["__class__"] (defScope s_LeapTree___init__) := nscope_by (by decide +kernel)
section
variable {P : Program} {w : World} {K : PySem.W.Frag} {mg : Str → Option Value} {base : Heap} {C : Addr}
def spInitL (C : Addr) : Sp := fun vs H Q _ => ∃ (t dx : Addr), vs = [.ref t] ∧ H t = some (.ins C dx []) ∧
  ∀ (H' : Hp) (N' : Addr → Prop), Lw C N' H' t [] → (∀ c u, c ≠ t → H c = some u → H' c = some u) → (∀ c, N' c → H c = none) → Q .non H'
theorem okL_init {g : Addr} {fd : FuncData} (T : Txt K mg) (TC : TreeC K C) (F : Fun K "__init__" "MakeTree.__init__" s_MakeTree___init__ g fd) (hb : Binds K fd ["self"] []) (S : SAt P K C "__init__" "LeapTree.__init__" s_LeapTree___init__ ["self"] g) :
    ∃ (f : Addr) (fd : FuncData), Meth K C "__init__" f ∧ Binds K fd ["self"] [] ∧ FnOk P w K mg base CX0 2 f fd ["self"] (spInitL C) := by
  obtain ⟨f, cc, c, oc, od, doc, pm, an, ct, osl, sup, lk, me, bi⟩ := S.ex
  refine ⟨f, _, me, bi, ?_⟩
  refine okS_do sup lk ns_init rfl (fun vs H Q E h => ?_) rfl (fn_init T TC F) hb (by rfl) (fun L => by rfl) (fun L => by rfl) ?_
  · obtain ⟨t, dx, rfl, _⟩ := h
    rfl
  · rintro A outer s H vs Q E hr ⟨t, dx, rfl, e1, q⟩
    refine ⟨t, dx, [], E0, _, rfl, e1, pass0, (pss_one (ps_fld (pv 0) (pe_lst (pa_cons (pe_lst pa_nil) pa_nil)) rfl)), ?_⟩
    refine ⟨t, dx, rfl, e1, fun H1 N1 tw ⟨fs, f1, f2, f3⟩ k1 n1 => ?_⟩
    refine ⟨(by show 0 ≤ sizeLine; decide), fun a ha => ⟨(by show 1 ≤ sizeLine; decide), fun p hp => ?_⟩⟩
    have hta : t ≠ a := fun e => by rw [← e, f1] at ha; cases ha
    have hp1 : H1 p = none := upd_none hp
    have htp : t ≠ p := fun e => by rw [← e, f1] at hp1; cases hp1
    have hap : a ≠ p := fun e => by
      rw [← e, upd_same] at hp
      cases hp
    obtain ⟨dx2, _, _, _, _, _, z1, _⟩ := tw.ex
    refine ⟨_, rfl, t, C, _, fs, rfl, kep (kep f1 ha) hp, TC.cl, TC.n_leaps, Nat.lt_of_le_of_lt f2 (by decide), ?_⟩
    have k3 : ∀ c u, c ≠ t → H1 c = some u → (upd (upd (upd H1 a (.lst [])) p (.lst [V.ref a])) t (.ins C dx (putF "_leaps" (.ref p) fs))) c = some u := fun c u h z => by
      rw [upd_ne h]
      exact kep (kep z ha) hp
    refine q _ (fun c => N1 c ∧ c ≠ t ∧ H1 c ≠ none ∨ (c = p ∨ c = a)) ⟨_, (fun c => c = p ∨ c = a), dx, p, _, tw.cut.put k3 f1 upd_same ?_ ?_, upd_same, ?_, ⟨[a], ?_, rfl, .inl rfl, fun i b hb => ?_⟩, fun c h1 h2 => ?_, fun c h => .inl h, fun c h => .inr h⟩ (fun c u hc z => k3 _ _ hc (k1 _ _ hc z)) fun c hc => ?_
    · exact Nat.lt_of_le_of_lt (length_putF _ _ _) (by omega)
    · intro m hm
      rw [lookup_putF, if_neg hm]
    · rw [lookup_putF, if_pos rfl]
    · rw [upd_ne htp.symm, upd_same]
      rfl
    · cases i with
      | zero =>
        cases (show some a = some b from hb)
        refine ⟨.inr rfl, hap, ?_⟩
        rw [upd_ne hta.symm, upd_ne hap, upd_same]
        rfl
      | succ i => cases hb
    · rcases h2 with rfl | rfl
      · exact h1.2.2 hp1
      · exact h1.2.2 ha
    · have bk : ∀ c, c ≠ t → H1 c = none → H c = none := fun c hc z => by
        cases z2 : H c with
        | none => rfl
        | some u =>
          rw [k1 _ _ hc z2] at z
          cases z
      rcases hc with hc | rfl | rfl
      · exact n1 _ hc.1
      · exact bk _ htp.symm hp1
      · exact bk _ hta.symm ha
def spGrowL (C : Addr) : Sp := fun vs H Q _ => ∃ (t : Addr) (ow : List Nat) (i : Nat) (N : Addr → Prop), vs = [.ref t, num i] ∧ Lw C N H t ow ∧ i ≤ ow.length ∧ ow.length < 63 ∧
  ∀ (H' : Hp) (N' : Addr → Prop), Lw C N' H' t (ow ++ [i]) → (∀ c u, ¬ N c → H c = some u → H' c = some u) → (∀ c, N' c → N c ∨ H c = none) → Q (num (ow.length + 1)) H'
theorem okL_grow {g : Addr} {fd : FuncData} (T : Txt K mg) (TC : TreeC K C) (m_many : Met P w K mg base 1 C "many" (spMany C) []) (m__need_make : Met P w K mg base 2 C "_need_make" (spNeed C) []) (m__leaps_through : Met P w K mg base 1 C "_leaps_through" (spThrough C) [])
    (F : Fun K "grow" "MakeTree.grow" s_MakeTree_grow g fd) (hb : Binds K fd ["self", "make"] []) (S : SAt P K C "grow" "LeapTree.grow" s_LeapTree_grow ["self", "make"] g) :
    Met P w K mg base 4 C "grow" (spGrowL C) [] := by
  obtain ⟨f, cc, c, oc, od, doc, pm, an, ct, osl, sup, lk, me, bi⟩ := S.ex
  refine ⟨f, _, _, [], TC.cl, me, ?_, bi, .nil⟩
  refine okS_set (i := 3) sup lk ns_grow rfl (fun vs H Q E h => ?_) rfl rfl rfl (fn_grow T TC m_many m__need_make F) hb (by rfl) (fun L => by rfl) (fun L => by rfl) (fun L => by rfl) (fun L => by rfl) ?_
  · obtain ⟨t, ow, i, N, rfl, _⟩ := h
    rfl
  · rintro A outer s H vs Q E hr ⟨t, ow, i, N, rfl, lw, hi, hf, q⟩
    obtain ⟨N1, N2, dx, q0, fs, tw, e1, l1, lv, dis, i1, i2⟩ := lw.ex
    refine ⟨t, dx, fs, E0, _, _, rfl, e1, pass0, (pa_cons (pv 1) pa_nil), (pss_cons (ps_expr (pe_bm PySem.F.plainAttrs_list PySem.F.slot_list_append PySem.F.type_list_append mt_append (pe_fld (pv 0) rfl) (pa_cons (pe_mt m__leaps_through hr (by decide) (pv 0) (pa_cons (pv 1) pa_nil)) pa_nil))) (pss_one (ps_ret (pv 3)))), ?_⟩
    refine ⟨_, rfl, t, ow, i, _, rfl, tw.cut, hi, hf, fun H1 M1 tw1 k1 n1 => ?_⟩
    obtain ⟨ls, e2, hls, Nq, hin⟩ := lv.ex
    have t1 : H1 t = some (.ins C dx fs) := k1 _ _ (fun z => z.2.1 rfl) e1
    have kv : ∀ c u, N2 c → H c = some u → H1 c = some u := fun c u hc z => k1 _ _ (fun y => dis c y.1 hc) z
    have lv1 : Lv N2 H1 q0 ow := lv.mono (fun _ z => z) kv
    have q1 : H1 q0 = some (.lst (ls.map V.ref)) := kv _ _ Nq e2
    have hqt : q0 ≠ t := fun z => by rw [z, e1] at e2; cases e2
    refine ⟨_, rfl, t, C, dx, fs, .ref q0, rfl, t1, TC.cl, TC.n_leaps, l1, .inl ⟨rfl, _, SqL.of q1⟩, ?_⟩
    obtain ⟨dx2, _, _, _, fs2, _, y1, _, _, _, y5, _⟩ := tw1.ex
    rw [t1] at y1
    cases y1
    refine ⟨_, rfl, t, dx, fs, rfl, t1, y5 _ (by decide), _, rfl, t, dx, q0, fs, ow, i, N2, rfl, t1, l1, lv1, tw.low, hi, hf, fun p H2 hp sm hk => ?_⟩
    have q2 := sm _ _ q1
    have hpq : p ≠ q0 := fun z => by rw [z, q1] at hp; cases hp
    have hpt : p ≠ t := fun z => by rw [z, t1] at hp; cases hp
    have hq3 : (upd H2 q0 (.lst (ls.map V.ref ++ [V.ref p]))) q0 = some (.lst ((ls ++ [p]).map V.ref)) := by
      rw [upd_same, List.map_append]
      rfl
    refine ⟨q0, _, _, rfl, rfl, q2, small1000 (by rw [List.length_map]; omega), ?_⟩
    have k3 : ∀ c u, c ≠ q0 → H1 c = some u → (upd H2 q0 (.lst (ls.map V.ref ++ [V.ref p]))) c = some u := fun c u hc z => by
      rw [upd_ne hc]
      exact sm _ _ z
    have kp3 : (upd H2 q0 (.lst (ls.map V.ref ++ [V.ref p]))) p = some (.lst ((leapsL (ow ++ [i]) (ow.length + 1)).map num)) := by
      rw [upd_ne hpq]
      exact hk
    generalize upd H2 q0 (.lst (ls.map V.ref ++ [V.ref p])) = H3 at *
    have nq : ∀ c, M1 c → c ≠ q0 := fun c hc z => by
      subst z
      rcases n1 _ hc with h | h
      · exact dis _ h.1 Nq
      · rw [e2] at h
        cases h
    refine ⟨_, rfl, q _ (fun c => (M1 c ∧ c ≠ t ∧ H1 c ≠ none) ∨ ((N2 c ∧ H c ≠ none) ∨ c = p)) ⟨_, (fun c => (N2 c ∧ H c ≠ none) ∨ c = p), dx, q0, fs, tw1.cut.kp fun c u hc z => ?_, k3 _ _ hqt.symm t1, l1, ⟨ls ++ [p], hq3, ?_, .inl ⟨Nq, fun z => by rw [e2] at z; cases z⟩, fun j b hb => ?_⟩, fun c h1 h2 => ?_, fun c h => .inl h, fun c h => .inr h⟩ (fun c u hc z => ?_) fun c hc => ?_⟩
    · rcases hc with hc | rfl
      · exact k3 _ _ (nq _ hc.1) z
      · exact k3 _ _ hqt.symm z
    · rw [List.length_append, List.length_append, hls]
      rfl
    · by_cases hj : j < ls.length
      · rw [List.getElem?_append_left hj] at hb
        obtain ⟨a1, a2, a3⟩ := hin j b hb
        refine ⟨.inl ⟨a1, fun z => by rw [a3] at z; cases z⟩, a2, ?_⟩
        rw [line_more' tw.low hi (by omega)]
        exact k3 _ _ a2 (kv _ _ a1 a3)
      · rw [List.getElem?_append_right (by omega)] at hb
        by_cases h0 : j - ls.length = 0
        · rw [h0] at hb
          cases (show some p = some b from hb)
          refine ⟨.inr rfl, hpq, ?_⟩
          have ej : j = ow.length + 1 := by omega
          rw [ej]
          exact kp3
        · rw [List.getElem?_eq_none (by show 1 ≤ _; omega)] at hb
          cases hb
    · rcases h2 with h2 | rfl
      · rcases n1 _ h1.1 with h | h
        · exact dis _ h.1 h2.1
        · exact h2.2 h
      · exact h1.2.2 hp
    · have h1 : ¬ N1 c := fun y => hc (i1 _ y)
      have h2 : ¬ N2 c := fun y => hc (i2 _ y)
      exact k3 _ _ (fun y => h2 (y ▸ Nq)) (k1 _ _ (fun y => h1 y.1) z)
    · rcases hc with hc | hc | rfl
      · rcases n1 _ hc.1 with h | h
        · exact .inl (i1 _ h.1)
        · exact .inr h
      · exact .inl (i2 _ hc.1)
      · by_cases y : N1 c
        · exact .inl (i1 _ y)
        · refine .inr ?_
          cases z2 : H c with
          | none => rfl
          | some u =>
            rw [k1 _ _ (fun x => y x.1) z2] at hp
            cases hp
end
end K18.Lf
set_option maxHeartbeats 1000000
namespace K18.Lf
open PySem PySem.Spec PyProof.Rows L2 Gd Gs
open C8 (clsBody Met pe_mt pe_mt0)
section
variable {P : Program} {w : World} {K : PySem.W.Frag} {mg : Str → Option Value} {base : Heap} {C CL : Addr}
theorem Lw.cut {C t : Addr} {N : Addr → Prop} {H : Hp} {ow : List Nat} (l : Lw C N H t ow) : Lw C (fun c => N c ∧ H c ≠ none) H t ow := by
  obtain ⟨N1, N2, dx, q, fs, tw, e1, l1, lv, dis, i1, i2⟩ := l.ex
  obtain ⟨ls, h1, h2, h3, h4⟩ := lv.ex
  refine ⟨_, (fun c => N2 c ∧ H c ≠ none), dx, q, fs, tw.cut, e1, l1, ⟨ls, h1, h2, ⟨h3, fun z => by rw [h1] at z; cases z⟩, fun i a ha => ?_⟩, fun c h1 h2 => dis c h1.1 h2.1, fun c h => ⟨i1 _ h.1, h.2.2⟩, fun c h => ⟨i2 _ h.1, h.2⟩⟩
  obtain ⟨a1, a2, a3⟩ := h4 i a ha
  exact ⟨⟨a1, fun z => by rw [a3] at z; cases z⟩, a2, a3⟩
theorem Lw.kp {C t : Addr} {N : Addr → Prop} {H H' : Hp} {ow : List Nat} (r : Lw C N H t ow) (k : ∀ c u, (N c ∨ c = t) → H c = some u → H' c = some u) : Lw C N H' t ow := by
  obtain ⟨N1, N2, dx, q, fs, tw, e1, l1, lv, dis, i1, i2⟩ := r.ex
  exact ⟨N1, N2, dx, q, fs, tw.kp fun c u y z => k c u (y.imp (i1 c) id) z, k _ _ (.inr rfl) e1, l1, lv.mono (fun _ z => z) fun c u y z => k c u (.inl (i2 c y)) z, dis, i1, i2⟩
theorem Lw.same {C t : Addr} {N : Addr → Prop} {H H' : Hp} {ow : List Nat} (r : Lw C N H t ow) (s : Same H H') : Lw C N H' t ow := r.kp fun c u _ z => s c u z
/-- what stands for the own make -/
def ownV (ow : List Nat) (i : Nat) : V := if i = 0 then .non else num (par ow i)
theorem at_any {ow : List Nat} {i : Nat} (h1 : i ≤ ow.length) : atI (V.non :: ow.map num) ((i : Nat) : Int) = some (ownV ow i) := by
  by_cases h0 : 0 < i
  · rw [at_own h0 h1]
    unfold ownV
    rw [if_neg (by omega)]
  · have e : i = 0 := by omega
    subst e
    exact atI_nat (j := 0) rfl
def spOwn (C : Addr) : Sp := fun vs H Q _ => ∃ (t : Addr) (ow ds : List Nat) (i : Nat), vs = [.ref t, num i] ∧ Tr H t C ow ds ∧ i ≤ ow.length ∧ Q (ownV ow i) H
theorem ok_own (T : Txt K mg) (TC : TreeC K C) (m__need_make : Met P w K mg base 2 C "_need_make" (spNeed C) []) (M : MAt K C "own" "MakeTree.own" s_MakeTree_own ["self", "make"]) :
    Met P w K mg base 3 C "own" (spOwn C) [] := by
  refine M.met TC.cl sc_MakeTree_own (fun vs H Q E h => ?_) (fun f cdv A outer s H vs Q E hr h => ?_)
  · obtain ⟨t, ow, ds, i, rfl, _⟩ := h
    rfl
  · obtain ⟨t, ow, ds, i, rfl, tr, hi, q⟩ := h
    obtain ⟨dx, o, d, n, fs, e1, l1, l2, l3, nl, e2, e3, lf⟩ := tr.ex
    refine ⟨_, (pss_cons (ps_expr (pe_mt m__need_make hr (by decide) (pv 0) (pa_cons (pv 1) pa_nil)))
      (pss_one (ps_ret (pe_ix ix_list (pe_fld (pv 0) rfl) (pv 1) (fun _ _ => rfl))))), ?_⟩
    refine ⟨_, rfl, t, dx, fs, rfl, e1, nl _ (by decide), _, rfl, t, ow, ds, i, rfl, tr, hi, ?_⟩
    exact ⟨_, rfl, t, C, dx, fs, .ref o, rfl, e1, TC.cl, TC.n_owns, l1, _, rfl, o, _, _, _, rfl, rfl, SqL.of e2, at_any hi, q⟩
def spGrowR (R : (Addr → Prop) → Hp → Addr → List Nat → Prop) : Sp := fun vs H Q _ => ∃ (t : Addr) (ow : List Nat) (i : Nat) (N : Addr → Prop), vs = [.ref t, num i] ∧ R N H t ow ∧ i ≤ ow.length ∧ ow.length < 63 ∧
  ∀ (H' : Hp) (N' : Addr → Prop), R N' H' t (ow ++ [i]) → (∀ c u, ¬ N c → H c = some u → H' c = some u) → (∀ c, N' c → N c ∨ H c = none) → Q (num (ow.length + 1)) H'
def spAlike (C : Addr) (R : (Addr → Prop) → Hp → Addr → List Nat → Prop) : Sp := fun vs H Q _ => ∃ (t u : Addr) (ow : List Nat) (N : Addr → Prop) (H0 : Hp), vs = [.ref t, .ref u] ∧ Same H0 H ∧ Tr H0 t C ow (depths ow) ∧ R N H u [] ∧ (∀ c, N c → H0 c = none) ∧ H0 u = none ∧
  ∀ (H' : Hp) (N' : Addr → Prop), R N' H' u ow → (∀ c, N' c → H0 c = none) → Same H0 H' → Q (.ref u) H'
/-- what a reading of trees must give -/
structure Rd (C : Addr) (R : (Addr → Prop) → Hp → Addr → List Nat → Prop) : Prop where
  tr : ∀ N H t ow, R N H t ow → Tr H t C ow (depths ow)
  cut : ∀ N H t ow, R N H t ow → R (fun c => N c ∧ H c ≠ none) H t ow
  same : ∀ N H H' t ow, R N H t ow → Same H H' → R N H' t ow
theorem ok_alike {R : (Addr → Prop) → Hp → Addr → List Nat → Prop} (TC : TreeC K C) (rd : Rd C R) (m_grow : Met P w K mg base 4 C "grow" (spGrowR R) []) (M : MAt K C "_grown_alike" "MakeTree._grown_alike" s_MakeTree__grown_alike ["self", "other"]) :
    Met P w K mg base 5 C "_grown_alike" (spAlike C R) [] := by
  refine M.met TC.cl sc_MakeTree__grown_alike (fun vs H Q E h => ?_) (fun f cdv A outer s H vs Q E hr h => ?_)
  · obtain ⟨t, u, ow, N, H0, rfl, _⟩ := h
    rfl
  · obtain ⟨t, u, ow, N0, H0, rfl, s0, tr0, rk, fr0, nu, q⟩ := h
    obtain ⟨dx0, o0, d0, n0, fs0, e1, l1, l2, l3, nl0, e2, e3, lf⟩ := (tr0.same s0).ex
    refine ⟨_, (pss_cons (ps_for PassesOwn.never rfl (pi_list (pe_slice sl_list (pe_fld (pv 0) rfl) (po_some pe_int) po_none)) (pg_name (i := 2) sc_MakeTree__grown_alike.nd rfl (Or.inl rfl))
          (pss_one (ps_expr (pe_mt m_grow hr (by decide) (pv 1) (pa_cons (pv 2) pa_nil)))))
      (pss_one (ps_ret (pv 1)))), ?_⟩
    refine ⟨_, rfl, t, C, dx0, fs0, .ref o0, rfl, e1, TC.cl, TC.n_owns, l1, _, rfl, o0, _, rfl, SqL.of e2, fun p hp => ?_⟩
    rw [show (some (1 : Int)) = some (((1 : Nat) : Int)) from rfl, cut_from, List.drop_one, List.tail_cons]
    refine ⟨p, rfl, ⟨_, SqL.of upd_same⟩, ?_⟩
    refine for_list (K := K) (a := p) (xs := ow.map num) (fun i σ H' => Same H0 H' ∧ H' p = some (.lst (ow.map num)) ∧ ∃ (N : Addr → Prop) (y : Option V), σ = [some (.ref t), some (.ref u), y] ∧ R N H' u (ow.take i) ∧ ¬ N p ∧ (∀ c, N c → H0 c = none))
      ⟨s0.trans (same_new hp), upd_same, (fun c => N0 c ∧ H c ≠ none), none, rfl, rd.same _ _ _ _ _ (rd.cut _ _ _ _ rk) (same_new hp), fun z => z.2 hp, fun c z => fr0 c z.1⟩ (fun i σ H' _ hP => SqL.of hP.2.1) (fun i x σ H2 hi hP => ?_) (fun σ H' hP => ?_)
    · obtain ⟨sm, hp2, N, y, rfl, rk2, nN, fr⟩ := hP
      rw [List.getElem?_map] at hi
      cases hj : ow[i]? with
      | none =>
        rw [hj] at hi
        cases hi
      | some j =>
        rw [hj] at hi
        cases (show some (num j) = some x from hi)
        have hlen : i < ow.length := by
          by_cases z : i < ow.length
          · exact z
          · rw [List.getElem?_eq_none (by omega)] at hj
            cases hj
        have tr := rd.tr _ _ _ _ rk2
        have few := tr0.few
        obtain ⟨dx, o, d, n, fs, e1, l1, l2, l3, nl, _⟩ := tr.ex
        have hlt : (ow.take i).length = i := by rw [List.length_take]; omega
        refine ⟨_, rfl, u, dx, fs, rfl, e1, nl _ (by decide), _, rfl, u, ow.take i, j, N, rfl, rk2, ?_, by omega, fun H3 N3 rk3 k3 n3 => ?_⟩
        · rw [hlt]
          exact tr0.low _ _ hj
        · refine ⟨fun c v z => k3 _ _ (fun y => by rw [fr _ y] at z; cases z) (sm _ _ z), k3 _ _ nN hp2, N3, _, rfl, ?_, fun z => ?_, fun c z => ?_⟩
          · rw [List.take_add_one, hj]
            exact rk3
          · rcases n3 _ z with h | h
            · exact nN h
            · rw [hp2] at h
              cases h
          · rcases n3 _ z with h | h
            · exact fr _ h
            · exact none_of sm h
    · obtain ⟨sm, hp2, N, y, rfl, rk2, nN, fr⟩ := hP
      have e : ow.take (ow.map num).length = ow := by
        rw [List.length_map]
        exact List.take_length
      rw [e] at rk2
      exact ⟨_, rfl, q H' N rk2 fr sm⟩
def spCopied (C : Addr) (R : (Addr → Prop) → Hp → Addr → List Nat → Prop) : Sp := fun vs H Q _ => ∃ (t : Addr) (ow : List Nat), vs = [.ref t] ∧ Tr H t C ow (depths ow) ∧
  ∀ (u : Addr) (H' : Hp) (N' : Addr → Prop), H u = none → R N' H' u ow → (∀ c, N' c → H c = none) → Same H H' → Q (.ref u) H'
theorem made_same {H H' : Hp} {t dx C : Addr} (n1 : H t = none) (n2 : H dx = none) (k : ∀ c u, c ≠ t → (upd (upd H dx (.own t)) t (.ins C dx [])) c = some u → H' c = some u) : Same H H' := fun c u z =>
  k c u (ne_of_none z n1) (by rw [upd_ne (ne_of_none z n1), upd_ne (ne_of_none z n2)]; exact z)
theorem ok_copiedL {fL : Addr} {fdL : FuncData} (TC : TreeC K C) (cL : mg "LeapTree" = some (.ref C)) (M_LeapTree : Mk K C fL) (B_LeapTree : Binds K fdL ["self"] []) (G_LeapTree : FnOk P w K mg base CX0 2 fL fdL ["self"] (spInitL C))
    (m__grown_alike : Met P w K mg base 5 C "_grown_alike" (spAlike C (Lw C)) []) (M : MAt K C "copied" "LeapTree.copied" s_LeapTree_copied ["self"]) : Met P w K mg base 6 C "copied" (spCopied C (Lw C)) [] := by
  refine M.met TC.cl sc_LeapTree_copied (fun vs H Q E h => ?_) (fun f cdv A outer s H vs Q E hr h => ?_)
  · obtain ⟨t, ow, rfl, _⟩ := h
    rfl
  · obtain ⟨t, ow, rfl, tr, q⟩ := h
    obtain ⟨dx, o, d, n, fs, e1, l1, l2, l3, nl, e2, e3, lf⟩ := tr.ex
    refine ⟨_, (pss_one (ps_ret (pe_mt m__grown_alike hr (by decide) (pv 0) (pa_cons (pe_make0 M_LeapTree G_LeapTree (hr.mono (by decide)) rfl cL B_LeapTree .nil pass0) pa_nil)))), ?_⟩
    refine ⟨_, rfl, t, dx, fs, rfl, e1, nl _ (by decide), ?_⟩
    intro u du n1 n2 ne
    refine ⟨u, du, rfl, upd_same, fun H1 N1 tw k1 f1 => ⟨rfl, ?_⟩⟩
    have sm := made_same n1 n2 k1
    exact ⟨t, u, ow, N1, H, rfl, sm, tr, tw, fun c hc => upd_none (upd_none (f1 c hc)), n1, fun H' N' r f s => q u H' N' n1 r f s⟩
end
end K18.Lf
set_option maxHeartbeats 1000000
namespace K18.Lf
open PySem PySem.Spec PyProof.Rows L2 Gd Gs Gx Ge
open NdefX (NScope nscope_by ncx startF NF)
open C8 (clsBody Met pe_mt pe_mt0)
section
variable {P : Program} {w : World} {K : PySem.W.Frag} {mg : Str → Option Value} {base : Heap} {C CN fN CM0 CT fT CK fK CM CL : Addr}
def spLine (C : Addr) : Sp := fun vs H Q _ => ∃ (t : Addr) (ow ds : List Nat) (i : Nat), vs = [.ref t, num i] ∧ Tr H t C ow ds ∧ i ≤ ow.length ∧ ∀ (p : Addr) (H' : Hp), H p = none → Same H H' → H' p = some (.lst ((line ow i).map num)) → Q (.ref p) H'
theorem ok_line (T : Txt K mg) (TC : TreeC K C) (m__need_make : Met P w K mg base 2 C "_need_make" (spNeed C) []) (M : MAt K C "line" "MakeTree.line" s_MakeTree_line ["self", "make"]) :
    Met P w K mg base 3 C "line" (spLine C) [] := by
  refine M.met TC.cl sc_MakeTree_line (fun vs H Q E h => ?_) (fun f cdv A outer s H vs Q E hr h => ?_)
  · obtain ⟨t, ow, ds, i, rfl, _⟩ := h
    rfl
  · obtain ⟨t, ow, ds, i, rfl, tr, hi, q⟩ := h
    obtain ⟨dx, o, d, n, fs, e1, l1, l2, l3, nl, e2, e3, lf⟩ := tr.ex
    refine ⟨_, (pss_cons (ps_expr (pe_mt m__need_make hr (by decide) (pv 0) (pa_cons (pv 1) pa_nil)))
      (pss_cons (ps_set (i := 2) sc_MakeTree_line.nd rfl (Or.inl rfl) (pe_lst (pa_cons (pv 1) pa_nil)))
      (pss_cons (ps_while PassesOwn.never (pt_cmpR op_notN (pe_ix ix_list (pe_fld (pv 0) rfl) (pe_ix ix_list (pv 2) (pe_un un_neg pe_int) (fun _ _ => rfl)) (fun _ _ => rfl)) pe_non (nomark _))
          (pss_one (ps_expr (pe_bm PySem.F.plainAttrs_list PySem.F.slot_list_append PySem.F.type_list_append mt_append (pv 2) (pa_cons (pe_ix ix_list (pe_fld (pv 0) rfl) (pe_ix ix_list (pv 2) (pe_un un_neg pe_int) (fun _ _ => rfl)) (fun _ _ => rfl)) pa_nil)))))
      (pss_one (ps_ret (pe_revL (pv 2))))))), ?_⟩
    refine ⟨_, rfl, t, dx, fs, rfl, e1, nl _ (by decide), _, rfl, t, ow, ds, i, rfl, tr, hi, ?_⟩
    refine ⟨_, rfl, (by show 1 ≤ sizeLine; decide), fun l hl => ?_⟩
    refine ⟨fun m σ H' => Same H H' ∧ ∃ us : List Nat, σ = [some (.ref t), some (num i), some (.ref l)] ∧ H' l = some (.lst ((us ++ [m]).map num)) ∧ line ow m ++ us.reverse = line ow i ∧ us.length + m ≤ i, ⟨i, same_new hl, [], rfl, upd_same, List.append_nil _, by simp⟩, ?_⟩
    rintro m σ H' ⟨sm, us, rfl, hL, hli, hle⟩
    have hlast : atI ((us ++ [m]).map num) (-1) = some (num m) := by
      rw [List.map_append]
      exact atI_last _ _
    have few := tr.few
    refine ⟨_, rfl, t, C, dx, fs, .ref o, rfl, sm _ _ e1, TC.cl, TC.n_owns, l1, _, rfl, _, rfl, l, _, _, _, rfl, rfl, SqL.of hL, hlast, ?_⟩
    by_cases hm : 0 < m
    · refine ⟨o, _, _, _, rfl, rfl, SqL.of (sm _ _ e2), at_own hm (by omega), rfl, _, rfl, iteT ?_⟩
      have hp := par_lt tr.low hm
      refine ⟨fun σ' H'' => ∃ m', m' < m ∧ Same H H'' ∧ ∃ us : List Nat, σ' = [some (.ref t), some (num i), some (.ref l)] ∧ H'' l = some (.lst ((us ++ [m']).map num)) ∧ line ow m' ++ us.reverse = line ow i ∧ us.length + m' ≤ i, fun σ' H'' z => z, ?_⟩
      refine ⟨_, rfl, .inl ⟨rfl, _, SqL.of hL⟩, ?_⟩
      refine ⟨_, rfl, t, C, dx, fs, .ref o, rfl, sm _ _ e1, TC.cl, TC.n_owns, l1, _, rfl, _, rfl, l, _, _, _, rfl, rfl, SqL.of hL, hlast, ?_⟩
      refine ⟨o, _, _, _, rfl, rfl, SqL.of (sm _ _ e2), at_own hm (by omega), ?_⟩
      refine ⟨l, _, _, rfl, rfl, hL, ?_, par ow m, hp, fun c u z => ?_, us ++ [m], rfl, ?_, ?_, ?_⟩
      · rw [List.length_map, List.length_append]
        exact small1000 (by show us.length + 1 ≤ 1000; omega)
      · rw [upd_ne (ne_of_none z hl)]
        exact sm c u z
      · rw [upd_same, List.map_append (f := num) (l₁ := us ++ [m])]
        rfl
      · rw [List.reverse_append, ← hli, line_step tr.low hm, List.append_assoc]
        rfl
      · rw [List.length_append]
        show us.length + 1 + _ ≤ i
        omega
    · have e : m = 0 := by omega
      subst e
      refine ⟨o, _, _, _, rfl, rfl, SqL.of (sm _ _ e2), (atI_nat (j := 0) rfl), rfl, _, rfl, iteF ?_⟩
      refine ⟨_, rfl, l, _, rfl, SqL.of hL, fun p hp => ?_⟩
      refine q p _ ?_ (sm.trans (same_new hp)) ?_
      · cases z : H p with
        | none => rfl
        | some u =>
          have z2 := sm _ _ z
          rw [hp] at z2
          cases z2
      · rw [upd_same, ← List.map_reverse, List.reverse_append, ← hli]
        rfl
def spDepth (C : Addr) : Sp := fun vs H Q _ => ∃ (t : Addr) (ow ds : List Nat) (i : Nat), vs = [.ref t, num i] ∧ Tr H t C ow ds ∧ i ≤ ow.length ∧ Q (num ((line ow i).length - 1)) H
theorem ok_depth (T : Txt K mg) (TC : TreeC K C) (m__need_make : Met P w K mg base 2 C "_need_make" (spNeed C) []) (M : MAt K C "depth" "MakeTree.depth" s_MakeTree_depth ["self", "make"]) :
    Met P w K mg base 3 C "depth" (spDepth C) [] := by
  refine M.met TC.cl sc_MakeTree_depth (fun vs H Q E h => ?_) (fun f cdv A outer s H vs Q E hr h => ?_)
  · obtain ⟨t, ow, ds, i, rfl, _⟩ := h
    rfl
  · obtain ⟨t, ow, ds, i, rfl, tr, hi, q⟩ := h
    obtain ⟨dx, o, d, n, fs, e1, l1, l2, l3, nl, e2, e3, lf⟩ := tr.ex
    refine ⟨_, (pss_cons (ps_expr (pe_mt m__need_make hr (by decide) (pv 0) (pa_cons (pv 1) pa_nil)))
      (pss_one (ps_ret (pe_ix ix_list (pe_fld (pv 0) rfl) (pv 1) (fun _ _ => rfl))))), ?_⟩
    refine ⟨_, rfl, t, dx, fs, rfl, e1, nl _ (by decide), _, rfl, t, ow, ds, i, rfl, tr, hi, ?_⟩
    exact ⟨_, rfl, t, C, dx, fs, .ref d, rfl, e1, TC.cl, TC.n_depths, l2, _, rfl, d, _, _, _, rfl, rfl, SqL.of e3, (by rw [tr.deep]; exact depths_at hi), q⟩
def spNear (C : Addr) : Sp := fun vs H Q _ => ∃ (t : Addr) (ow ds : List Nat) (i j : Nat), vs = [.ref t, num i, num j] ∧ Tr H t C ow ds ∧ i ≤ ow.length ∧ j ≤ ow.length ∧ Q (num (nearL (line ow i) (line ow j))) H
theorem ok_near (T : Txt K mg) (TC : TreeC K C) (m__need_make : Met P w K mg base 2 C "_need_make" (spNeed C) []) (M : MAt K C "nearest" "MakeTree.nearest" s_MakeTree_nearest ["self", "one", "other"]) :
    Met P w K mg base 3 C "nearest" (spNear C) [] := by
  refine M.met TC.cl sc_MakeTree_nearest (fun vs H Q E h => ?_) (fun f cdv A outer s H vs Q E hr h => ?_)
  · obtain ⟨t, ow, ds, i, j, rfl, _⟩ := h
    rfl
  · obtain ⟨t, ow, ds, i, j, rfl, tr, hi, hj, q⟩ := h
    obtain ⟨dx, o, d, n, fs, e1, l1, l2, l3, nl, e2, e3, lf⟩ := tr.ex
    refine ⟨_, (pss_cons (ps_expr (pe_mt m__need_make hr (by decide) (pv 0) (pa_cons (pv 1) pa_nil)))
      (pss_cons (ps_expr (pe_mt m__need_make hr (by decide) (pv 0) (pa_cons (pv 2) pa_nil)))
      (pss_cons (ps_while PassesOwn.never (pt_cmpR op_ne (pv 1) (pv 2) (nomark _))
          (pss_one (ps_if (pt_cmpR op_gt (pv 1) (pv 2) (nomark _))
              (pss_one (ps_set (i := 1) sc_MakeTree_nearest.nd rfl (Or.inl rfl) (pe_ix ix_list (pe_fld (pv 0) rfl) (pv 1) (fun _ _ => rfl)))) 
              (pss_one (ps_set (i := 2) sc_MakeTree_nearest.nd rfl (Or.inl rfl) (pe_ix ix_list (pe_fld (pv 0) rfl) (pv 2) (fun _ _ => rfl)))))))
      (pss_one (ps_ret (pv 1)))))), ?_⟩
    refine ⟨_, rfl, t, dx, fs, rfl, e1, nl _ (by decide), _, rfl, t, ow, ds, i, rfl, tr, hi, ?_⟩
    refine ⟨_, rfl, t, dx, fs, rfl, e1, nl _ (by decide), _, rfl, t, ow, ds, j, rfl, tr, hj, ?_⟩
    refine ⟨fun m σ H' => H' = H ∧ ∃ a b : Nat, σ = [some (.ref t), some (num a), some (num b)] ∧ a ≤ ow.length ∧ b ≤ ow.length ∧ m = a + b ∧ nearL (line ow a) (line ow b) = nearL (line ow i) (line ow j), ⟨i + j, rfl, i, j, rfl, hi, hj, rfl, rfl⟩, ?_⟩
    rintro m σ H' ⟨rfl, a, b, rfl, ha, hb, rfl, e⟩
    refine ⟨_, rfl, _, rfl, rfl, _, rfl, ?_⟩
    refine ite2 (fun hne => ?_) (fun hne => ?_)
    · have hab : a ≠ b := fun e => by
        rw [e] at hne
        exact absurd hne (by simp)
      refine ⟨fun σ' H'' => ∃ m', m' < a + b ∧ H'' = H' ∧ ∃ a' b' : Nat, σ' = [some (.ref t), some (num a'), some (num b')] ∧ a' ≤ ow.length ∧ b' ≤ ow.length ∧ m' = a' + b' ∧ nearL (line ow a') (line ow b') = nearL (line ow i) (line ow j), fun σ' H'' z => z, ?_⟩
      refine ⟨_, rfl, _, rfl, _, _, rfl, rfl, _, rfl, ?_⟩
      refine ite2 (fun hgt => ?_) (fun hgt => ?_)
      · have h2 : b < a := by have := of_decide_eq_true hgt; omega
        have hp := par_lt tr.low (by omega : 0 < a)
        refine ⟨_, rfl, t, C, dx, fs, .ref o, rfl, e1, TC.cl, TC.n_owns, l1, _, rfl, o, _, _, _, rfl, rfl, SqL.of e2, at_own (by omega) ha, ?_⟩
        exact ⟨par ow a + b, by omega, rfl, _, _, rfl, by omega, hb, rfl, (near_left tr.low h2).trans e⟩
      · have h2 : a < b := by
          have : ¬ ((b : Int) < (a : Int)) := fun z => hgt (decide_eq_true z)
          omega
        have hp := par_lt tr.low (by omega : 0 < b)
        refine ⟨_, rfl, t, C, dx, fs, .ref o, rfl, e1, TC.cl, TC.n_owns, l1, _, rfl, o, _, _, _, rfl, rfl, SqL.of e2, at_own (by omega) hb, ?_⟩
        exact ⟨a + par ow b, by omega, rfl, _, _, rfl, ha, by omega, rfl, (near_right tr.low h2).trans e⟩
    · have hab : a = b := by
        by_cases z : a = b
        · exact z
        · refine absurd ?_ hne
          have : V.int (a : Int) ≠ V.int (b : Int) := fun e => z (by have := V.int.inj e; omega)
          show (!decide (V.int (a : Int) = V.int (b : Int))) = true
          rw [decide_eq_false this]
          rfl
      subst hab
      rw [near_self tr.low] at e
      rw [← e] at q
      exact ⟨_, rfl, q⟩
end
end K18.Lf
set_option maxHeartbeats 1000000
namespace K18.Lf
open PySem PySem.Spec PyProof.Rows L2 Gd Gs Gx Ge
open NdefX (NScope nscope_by ncx startF NF)
open C8 (clsBody Met pe_mt pe_mt0)
section
variable {P : Program} {w : World} {K : PySem.W.Frag} {mg : Str → Option Value} {base : Heap} {C CN fN CM0 CT fT CK fK CM CL : Addr}
theorem _root_.K18.MAt.metX {m qual : Str} {st : Stmt} {N ps : List Str} {k : Nat} {sp : Sp} (M : MAt K C m qual st ps) (cl : Cls K C) (S : FnScope N ps (defScope st))
    (ar : ∀ vs H Q E, sp vs H Q E → vs.length = ps.length)
    (bd : ∀ (f : Addr) (cdv : Value) (A : Around) (outer : List Env) (s : Shared) (H : Hp) (vs : List V) (Q : VK) (E : XK), Room k (A.deeper (envOfC qual (defScope st) s.heap.objs.size f cdv)) → sp vs H Q E →
      ∃ t, PSs (cxOf (L2.CX P w) P w K mg base N qual (defScope st) f cdv A outer s H E) (defBody st) t ∧ t { nx := fun _ H' => Q .non H', rt := Q } (start N vs) H) : MetX P w K mg base (k + 1) C m sp := by
  obtain ⟨f, fd, F, me, b⟩ := M.ex
  exact ⟨f, fd, ps, cl, me, F.okX S ar (bd f), b⟩
def wholeD (d : PyData) (lo hi : Int) : Bool := match d with
  | .int n => decide (lo ≤ n) && decide (n ≤ hi)
  | _ => false
theorem d1Int {H : Hp} {v : V} {n : Int} (h : D1 K H v (.int n)) : v = .int n := by
  cases h with
  | dp h =>
    cases h
    rfl
def spWhole (K : PySem.W.Frag) : Sp := fun vs H Q _ => ∃ (v : V) (d : PyData) (lo hi : Int), vs = [v, .int lo, .int hi] ∧ D1 K H v d ∧ Q (.bl (wholeD d lo hi)) H
theorem chain_end {lo n hi : Int} {Q : VK} {H : Hp} (q : Q (.bl (wholeD (.int n) lo hi)) H) :
    (if decide (lo ≤ n) = true then Q (.bl (decide (n ≤ hi))) H else Q (.bl false) H) := by
  have e : wholeD (.int n) lo hi = (decide (lo ≤ n) && decide (n ≤ hi)) := rfl
  rw [e] at q
  by_cases hl : lo ≤ n
  · rw [decide_eq_true hl] at q ⊢
    exact iteT q
  · rw [decide_eq_false hl] at q ⊢
    exact iteF q
theorem ok_whole (T : Txt K mg) (D : DefAt K mg "is_whole" s_is_whole ["thing", "low", "high"]) : C8.Cal P w K mg base 1 "is_whole" (spWhole K) [] := by
  obtain ⟨f, fd, F, m, b⟩ := D.ex
  refine ⟨f, fd, _, [], F.ok sc_is_whole (fun vs H Q E h => ?_) (fun cdv A outer s H vs Q E hr h => ?_), m, F.kp, b, .nil⟩
  · obtain ⟨v, d, lo, hi, rfl, _⟩ := h
    rfl
  · obtain ⟨v, d, lo, hi, rfl, hd, q⟩ := h
    have ty := tyD hd
    refine ⟨_, (pss_one (ps_ret (pe_and (pe_callB call_isi (by rfl) T.b_isinstance boot_isinstance_ (pa_cons (pv 0) (pa_cons (pe_bltn (v := .ty "int") (by rfl) T.t_int boot_int_ rfl) pa_nil))) (pe_and (pe_not (pe_callB call_isi (by rfl) T.b_isinstance boot_isinstance_ (pa_cons (pv 0) (pa_cons (pe_bltn (v := .ty "bool") (by rfl) T.t_bool boot_bool_ rfl) pa_nil)))) (pe_one (pe_chain op_le op_le (pv 1) (pv 0) (pv 2))))))), ?_⟩
    refine ⟨_, rfl, v, .ty "int", _, .type "int", _, rfl, .ty _, ty, kInt d, _, rfl, ?_⟩
    cases d with
    | int n =>
      cases d1Int hd
      refine iteT ?_
      refine ⟨_, rfl, _, .ty "bool", _, .type "bool", _, rfl, .ty _, ty, kBool _, _, rfl, _, rfl, ?_⟩
      refine iteT ?_
      refine ⟨_, rfl, _, rfl, _, _, rfl, rfl, _, rfl, ?_⟩
      have z := chain_end (Q := Q) q
      split
      · rename_i hl
        rw [if_pos hl] at z
        exact ⟨_, rfl, _, _, rfl, rfl, z⟩
      · rename_i hl
        rw [if_neg hl] at z
        exact z
    | bool x =>
      refine iteT ?_
      refine ⟨_, rfl, _, .ty "bool", _, .type "bool", _, rfl, .ty _, ty, kBool _, _, rfl, _, rfl, ?_⟩
      exact iteF q
    | none => exact iteF q
    | str x => exact iteF q
    | list x => exact iteF q
    | tuple x => exact iteF q
    | dict x => exact iteF q
/-- what the written part says of NoMake -/
structure ErrK (P : Program) (K : PySem.W.Frag) (mg : Str → Option Value) (CK fK : Addr) : Prop where
  e_NoMake : ErrTxt P K CK fK "NoMake.__init__" "this is no make"
  g_NoMake : mg "NoMake" = some (.ref CK)
def spB1 (K : PySem.W.Frag) (CK C : Addr) : Sp := fun vs H Q E => ∃ (t : Addr) (ow ds : List Nat) (v : V) (d : PyData), vs = [.ref t, v] ∧ Tr H t C ow ds ∧ D1 K H v d ∧ wholeD d 0 (ow.length : Nat) = false ∧ ∀ a, H a = none → E (.ref CK) (some a) (upd H a (.xd [("found", v)]))
theorem ok_needB (T : Txt K mg) (R : ErrK P K mg CK fK) (TC : TreeC K C) (c_is_whole : C8.Cal P w K mg base 1 "is_whole" (spWhole K) []) (m_many : Met P w K mg base 1 C "many" (spMany C) []) (M : MAt K C "_need_make" "MakeTree._need_make" s_MakeTree__need_make ["self", "make"]) : MetX P w K mg base 2 C "_need_make" (spB1 K CK C) := by
  refine M.metX TC.cl sc_MakeTree__need_make (fun vs H Q E h => ?_) (fun f cdv A outer s H vs Q E hr h => ?_)
  · obtain ⟨t, ow, ds, v, d, rfl, _⟩ := h
    rfl
  · obtain ⟨t, ow, ds, v, d, rfl, tr, hd, bad, q⟩ := h
    obtain ⟨dx, o, de, n, fs, e1, l1, l2, l3, nl, e2, e3, lf⟩ := tr.ex
    refine ⟨_, (pss_one (ps_if (pt_not (pt_val (C8.pe_c c_is_whole hr (by decide) (by rfl) (pa_cons (pv 1) (pa_cons pe_int (pa_cons (pe_op op_sub (pe_mt0 m_many hr (by decide) (pv 0)) pe_int) pa_nil))))))
          (pss_one (ps_raiseE rfl R.e_NoMake R.g_NoMake hr (takes_of rfl rfl rfl rfl) (by exact (pa_cons (pv 1) pa_nil)) (by rfl))) pss_nil)), ?_⟩
    refine ⟨_, rfl, _, rfl, t, dx, fs, rfl, e1, nl _ (by decide), t, ow, ds, rfl, tr, _, _, rfl, rfl, v, d, 0, (ow.length : Nat), ?_, hd, _, rfl, ?_⟩
    · show [v, V.int 0, V.int (((ow.length + 1 : Nat) : Int) - 1)] = _
      rw [show ((ow.length + 1 : Nat) : Int) - 1 = (ow.length : Nat) from by omega]
    rw [bad]
    exact iteT ⟨_, rfl, v, rfl, q⟩
theorem fn_growB {f : Addr} {fd : FuncData} (T : Txt K mg) (TC : TreeC K C) (m_many : Met P w K mg base 1 C "many" (spMany C) []) (x_need : MetX P w K mg base 2 C "_need_make" (spB1 K CK C)) (F : Fun K "grow" "MakeTree.grow" s_MakeTree_grow f fd) :
    FnOk P w K mg base (L2.CX P w) 3 f fd ["self", "make"] (spB1 K CK C) := by
  refine F.okX sc_MakeTree_grow (fun vs H Q E h => ?_) (fun cdv A outer s H vs Q E hr h => ?_)
  · obtain ⟨t, ow, ds, v, d0, rfl, _⟩ := h
    rfl
  · obtain ⟨t, ow, ds, v, d0, rfl, tr, hd, bad, q⟩ := h
    obtain ⟨dx, o, d, n, fs, e1, l1, l2, l3, nl, e2, e3, lf⟩ := tr.ex
    refine ⟨_, (pss_cons (ps_expr (pe_mtX x_need hr (by decide) (takes_of rfl rfl rfl rfl) (pv 0) (pa_cons (pv 1) pa_nil)))
      (pss_cons (ps_set (i := 2) sc_MakeTree_grow.nd rfl (Or.inl rfl) (pe_mt0 m_many hr (by decide) (pv 0)))
      (pss_cons (ps_if (pt_cmpR op_ge (pv 2) (pe_gi rfl T.g_MOST_MAKES) (nomark _))
          (pss_one ps_never) pss_nil)
      (pss_cons (ps_expr (pe_bm PySem.F.plainAttrs_list PySem.F.slot_list_append PySem.F.type_list_append mt_append (pe_fld (pv 0) rfl) (pa_cons (pv 1) pa_nil)))
      (pss_cons (ps_expr (pe_bm PySem.F.plainAttrs_list PySem.F.slot_list_append PySem.F.type_list_append mt_append (pe_fld (pv 0) rfl) (pa_cons (pe_op op_add (pe_ix ix_list (pe_fld (pv 0) rfl) (pv 1) (fun _ _ => rfl)) pe_int) pa_nil)))
      (pss_cons (ps_expr (pe_bm PySem.F.plainAttrs_list PySem.F.slot_list_append PySem.F.type_list_append mt_append (pe_fld (pv 0) rfl) (pa_cons (pe_lst pa_nil) pa_nil)))
      (pss_cons (ps_expr (pe_bm PySem.F.plainAttrs_list PySem.F.slot_list_append PySem.F.type_list_append mt_append (pe_ix ix_list (pe_fld (pv 0) rfl) (pv 1) (fun _ _ => rfl)) (pa_cons (pv 2) pa_nil)))
      (pss_one (ps_ret (pv 2)))))))))), ?_⟩
    exact ⟨_, rfl, t, dx, fs, rfl, e1, nl _ (by decide), _, rfl, t, ow, ds, v, d0, rfl, tr, hd, bad, q⟩
theorem okL_growB {g : Addr} {fd : FuncData} (T : Txt K mg) (TC : TreeC K C) (m_many : Met P w K mg base 1 C "many" (spMany C) []) (x_need : MetX P w K mg base 2 C "_need_make" (spB1 K CK C)) (m__leaps_through : Met P w K mg base 1 C "_leaps_through" (spThrough C) [])
    (F : Fun K "grow" "MakeTree.grow" s_MakeTree_grow g fd) (hb : Binds K fd ["self", "make"] []) (S : SAt P K C "grow" "LeapTree.grow" s_LeapTree_grow ["self", "make"] g) :
    MetX P w K mg base 4 C "grow" (spB1 K CK C) := by
  obtain ⟨f, cc, c, oc, od, doc, pm, an, ct, osl, sup, lk, me, bi⟩ := S.ex
  refine ⟨f, _, _, TC.cl, me, ?_, bi⟩
  refine okS_set (i := 3) sup lk ns_grow rfl (fun vs H Q E h => ?_) rfl rfl rfl (fn_growB T TC m_many x_need F) hb (by rfl) (fun L => by rfl) (fun L => by rfl) (fun L => by rfl) (fun L => by rfl) ?_
  · obtain ⟨t, ow, ds, v, d0, rfl, _⟩ := h
    rfl
  · rintro A outer s H vs Q E hr ⟨t, ow, ds, v, d0, rfl, tr, hd, bad, q⟩
    obtain ⟨dx, o, d, n, fs, e1, l1, l2, l3, nl, e2, e3, lf⟩ := tr.ex
    refine ⟨t, dx, fs, E, _, _, rfl, e1, passes_call (takes_of rfl rfl rfl rfl) (fun _ _ _ _ h => h), (pa_cons (pv 1) pa_nil), (pss_cons (ps_expr (pe_bm PySem.F.plainAttrs_list PySem.F.slot_list_append PySem.F.type_list_append mt_append (pe_fld (pv 0) rfl) (pa_cons (pe_mt m__leaps_through hr (by decide) (pv 0) (pa_cons (pv 1) pa_nil)) pa_nil))) (pss_one (ps_ret (pv 3)))), ?_⟩
    exact ⟨_, rfl, t, ow, ds, v, d0, rfl, tr, hd, bad, q⟩
end
end K18.Lf
/-! max of a list of pairs of whole numbers -/
namespace Gm
open PySem PySem.Spec PyProof.Rows L2
open PySem.W (dataLt alike alikeAll keyToks keyToksAll maxD max_list_data)
def pdI (p : Int × Int) : PyData := .tuple [.int p.1, .int p.2]
theorem lex_two (a b c d : Int) : PyProof.Rows.lexLt PyProof.Rows.itemOrd [.inl 1, .inl a, .inl 1, .inl b, .inl 0] [.inl 1, .inl c, .inl 1, .inl d, .inl 0] = (if a = c then decide (b < d) else decide (a < c)) := by
  have e1 := PySem.W.lex_pre [.inl 1] [.inl a, .inl 1, .inl b, .inl 0] [.inl c, .inl 1, .inl d, .inl 0]
  refine Eq.trans e1 ?_
  by_cases h : a = c
  · subst h
    rw [if_pos rfl]
    have e2 := PySem.W.lex_pre [.inl a, .inl 1] [.inl b, .inl 0] [.inl d, .inl 0]
    refine Eq.trans e2 ?_
    by_cases h2 : b = d
    · subst h2
      have e3 := PySem.W.lex_pre [.inl b] [.inl 0] [.inl 0]
      refine (Eq.trans e3 (lex_irrefl _)).trans ?_
      simp
    · rw [PySem.W.lex_atom (by simpa using h2)]
      have := PySem.W.dataLt_int b d
      unfold dataLt at this
      simpa only [keyToks] using this
  · rw [if_neg h, PySem.W.lex_atom (by simpa using h)]
    have := PySem.W.dataLt_int a c
    unfold dataLt at this
    simpa only [keyToks] using this
theorem lt_pdI (p q : Int × Int) : dataLt (pdI p) (pdI q) = SrtO.lexB p q := by
  unfold dataLt pdI SrtO.lexB
  simp only [keyToks, keyToksAll, List.cons_append, List.nil_append]
  exact lex_two _ _ _ _
def mx (p : Int × Int) (ps : List (Int × Int)) : Int × Int := ps.foldl (fun a y => if SrtO.lexB a y then y else a) p
theorem maxD_pdI : ∀ (ps : List (Int × Int)) (p : Int × Int), maxD (pdI p) (ps.map pdI) = pdI (mx p ps)
  | [], _ => rfl
  | q :: r, p => by
    have e : maxD (pdI p) (pdI q :: r.map pdI) = maxD (if dataLt (pdI p) (pdI q) then pdI q else pdI p) (r.map pdI) := rfl
    have e2 : mx p (q :: r) = mx (if SrtO.lexB p q then q else p) r := rfl
    rw [List.map_cons, e, e2, lt_pdI]
    cases SrtO.lexB p q
    · exact maxD_pdI r p
    · exact maxD_pdI r q
theorem mx_top : ∀ (ps : List (Int × Int)) (p : Int × Int), (mx p ps = p ∨ mx p ps ∈ ps) ∧ ∀ y, (y = p ∨ y ∈ ps) → SrtO.lexB (mx p ps) y = false
  | [], p => ⟨.inl rfl, fun y h => by
    rcases h with rfl | h
    · exact SrtO.lexB_no.mpr (by show ¬ (y.1 < y.1 ∨ (y.1 = y.1 ∧ y.2 < y.2)); omega)
    · cases h⟩
  | q :: r, p => by
    have e2 : mx p (q :: r) = mx (if SrtO.lexB p q then q else p) r := rfl
    rw [e2]
    cases h : SrtO.lexB p q with
    | true =>
      obtain ⟨a, b⟩ := mx_top r q
      have hp := SrtO.lexB_iff.mp h
      refine ⟨.inr (a.elim (fun e => by rw [if_pos rfl, e]; exact List.mem_cons_self) fun m => by rw [if_pos rfl]; exact List.mem_cons_of_mem _ m), fun y hy => ?_⟩
      rw [if_pos rfl]
      have bq := SrtO.lexB_no.mp (b q (.inl rfl))
      rcases hy with rfl | hy
      · exact SrtO.lexB_no.mpr (by omega)
      · rcases List.mem_cons.mp hy with rfl | hy
        · exact b _ (.inl rfl)
        · exact b _ (.inr hy)
    | false =>
      obtain ⟨a, b⟩ := mx_top r p
      have hp := SrtO.lexB_no.mp h
      rw [if_neg (by decide)]
      refine ⟨a.elim .inl fun m => .inr (List.mem_cons_of_mem _ m), fun y hy => ?_⟩
      have bq := SrtO.lexB_no.mp (b p (.inl rfl))
      rcases hy with rfl | hy
      · exact b _ (.inl rfl)
      · rcases List.mem_cons.mp hy with rfl | hy
        · exact SrtO.lexB_no.mpr (by omega)
        · exact b _ (.inr hy)
/-- max(xs), xs a list of pairs of whole numbers (k says which) -/
def rMaxP (K : PySem.W.Frag) : List V → Hp → VK → Prop := fun vs H Q => ∃ (a : Addr) (xs : List V) (k : V → Int × Int), vs = [V.ref a] ∧ SqL K H a xs ∧ xs ≠ [] ∧ (∀ x ∈ xs, ∃ t, x = V.ref t ∧ H t = some (.tup [.int (k x).1, .int (k x).2])) ∧
  ∀ x ∈ xs, (∀ y ∈ xs, SrtO.lexB (k x) (k y) = false) → Q x H
theorem reads_pairs {h : Heap} {k : Value → Int × Int} : ∀ us : List Value, (∀ v ∈ us, Srt.IsPair h v (k v).1 (k v).2) → ReadsAll h us (us.map fun u => pdI (k u)) []
  | [], _ => .nil
  | u :: us, hp => by
    obtain ⟨a, o, t, t2, n, e, ho, hc, hd⟩ := hp u List.mem_cons_self
    have r : Reads h u (pdI (k u)) [] := by
      rw [e]
      refine .tuple (as := []) ho hc hd ?_
      rw [e]
      exact .cons (as := []) (bs := []) (.int _ _) (.cons (as := []) (bs := []) (.int _ _) .nil)
    exact .cons (as := []) (bs := []) r (reads_pairs us fun v hv => hp v (List.mem_cons_of_mem _ hv))
theorem int_reads {h : Heap} {i j : Int} {t : Tok} {as : List Addr} (r : Reads h (.int i t) (.int j) as) : i = j := by
  cases r
  rfl
section
variable {X : Cx}
theorem cr_maxP (hc : X.calm = true) (hu : X.A.units + 64 < cLine) : CallR X (.builtin "max") (rMaxP X.K) := by
  intro pins s σ H vs us Q I r h
  obtain ⟨a, xs, k, rfl, hs, hne, hx, q⟩ := h
  obtain ⟨its, rv, hl, hz⟩ := I.list hs
  obtain ⟨u, rfl, ru⟩ := vals1 r
  obtain rfl : u = Value.ref a := ru
  obtain ⟨e1, e2⟩ := refs_back rv fun x m => by
    obtain ⟨t, e, _⟩ := hx x m
    exact ⟨t, e⟩
  have hp : ∀ v ∈ its, Srt.IsPair s.heap v (k (backV v)).1 (k (backV v)).2 := fun v hv => by
    obtain ⟨t, rfl⟩ := e2 v hv
    have hm : V.ref t ∈ xs := by rw [e1]; exact List.mem_map.mpr ⟨_, hv, rfl⟩
    obtain ⟨t', e, ht⟩ := hx _ hm
    cases e
    obtain ⟨_, its2, r2, o, ho, hc, n, hd⟩ := I.hok _ _ ht
    obtain ⟨u1, u2, rfl, ri, rj⟩ := vals2 r2
    obtain ⟨t1, rfl⟩ := ri
    obtain ⟨t2, rfl⟩ := rj
    exact ⟨t, o, t1, t2, n, rfl, ho, hc, hd⟩
  have ra := reads_pairs (k := fun u => k (backV u)) its hp
  cases its with
  | nil =>
    rw [e1] at hne
    exact absurd rfl hne
  | cons u0 us =>
    have dep : ∀ l : List Value, PyData.depthAll (l.map fun u => pdI (k (backV u))) ≤ 1 := fun l => by
      induction l with
      | nil => simp [PyData.depthAll]
      | cons z l ih =>
        have e : (pdI (k (backV z))).depth ≤ 1 := by simp [pdI, PyData.depth, PyData.depthAll]
        rw [List.map_cons]
        simp only [PyData.depthAll]
        omega
    refine max_list_data (vs := (u0 :: us).toArray) (x := pdI (k (backV u0))) (xs := us.map fun u => pdI (k (backV u))) (as := []) (I.ok.hd hc) hl.isList ra ⟨fun x hx y hy => ?_, fun x hx => ?_⟩ (by have := dep (u0 :: us); simp only [List.map_cons] at this; omega) fun i v h' tk bs hi rd kk => ?_
    · obtain ⟨x', _, rfl⟩ := List.mem_map.mp (show x ∈ (u0 :: us).map fun u => pdI (k (backV u)) from hx)
      obtain ⟨y', _, rfl⟩ := List.mem_map.mp (show y ∈ (u0 :: us).map fun u => pdI (k (backV u)) from hy)
      simp [pdI, alike, alikeAll]
    · obtain ⟨x', _, rfl⟩ := List.mem_map.mp (show x ∈ (u0 :: us).map fun u => pdI (k (backV u)) from hx)
      intro z
      cases z
    · have hv : v ∈ u0 :: us := List.mem_of_getElem? (by simpa using hi)
      have em : (us.map fun u => pdI (k (backV u))) = (us.map fun u => k (backV u)).map pdI := by rw [List.map_map]; rfl
      rw [em, maxD_pdI] at rd
      obtain ⟨t, rfl⟩ := e2 v hv
      obtain ⟨t', o, t1, t2, n, e, ho, hcl, hd⟩ := hp _ hv
      cases e
      have ev : k (V.ref t) = mx (k (backV u0)) (us.map fun u => k (backV u)) := by
        generalize hm : mx (k (backV u0)) (us.map fun u => k (backV u)) = m at rd
        unfold pdI at rd
        cases rd with
        | tuple g1 g2 g3 g4 =>
          rw [kk _ _ ho] at g1
          cases g1
          rw [hd] at g3
          cases g3
          cases g4 with
          | cons r1 r2 =>
            cases r2 with
            | cons r3 r4 =>
              have a1 : (k (V.ref t)).1 = m.1 := int_reads r1
              have a2 : (k (V.ref t)).2 = m.2 := int_reads r3
              exact Prod.ext a1 a2
      refine ⟨V.ref t, H, I.kept kk, rfl, q _ (by rw [e1]; exact List.mem_map.mpr ⟨_, hv, rfl⟩) fun y hy => ?_⟩
      rw [e1] at hy
      obtain ⟨y', hy', rfl⟩ := List.mem_map.mp hy
      rw [ev]
      refine (mx_top _ _).2 _ ?_
      rcases List.mem_cons.mp hy' with rfl | hy'
      · exact .inl rfl
      · exact .inr (List.mem_map.mpr ⟨_, hy', rfl⟩)
end
end Gm
set_option maxHeartbeats 1000000
namespace K18
open PySem PySem.Spec PyProof.Rows L2 Gd Gs Gx Ge
open C8 (clsBody Met pe_mt pe_mt0)
section
variable {P : Program} {w : World} {K : PySem.W.Frag} {mg : Str → Option Value} {base : Heap} {CT CO CN fN : Addr}
/-- a door with a bad thing -/
def spTBad (K : PySem.W.Frag) (CN CT CO : Addr) : Sp := fun vs H Q E => ∃ (N : Addr → Prop) (t : Addr) (n : Nat) (ms ls : List Nat) (ts : Nat) (v : V) (d : PyData), vs = [.ref t, v] ∧ TouA N H t CT CO n ms ls ts ∧ D1 K H v d ∧ Lf.wholeD d 0 ((n : Int) - 1) = false ∧ ∀ a, H a = none → E (.ref CN) (some a) (upd H a (.xd [("found", v)]))
theorem ok_tneedB (T : Txt K mg) (R : Lf.ErrK P K mg CN fN) (OC : TouC K CT) (c_is_whole : C8.Cal P w K mg base 1 "is_whole" (Lf.spWhole K) []) (m_many : Met P w K mg base 1 CT "many" (spTMany CT CO) []) (M : MAt K CT "_need_make" "Tour._need_make" s_Tour__need_make ["self", "make"]) : MetX P w K mg base 2 CT "_need_make" (spTBad K CN CT CO) := by
  refine M.metX OC.cl sc_Tour__need_make (fun vs H Q E h => ?_) (fun f cdv A outer s H vs Q E hr h => ?_)
  · obtain ⟨N, t, n, ms, ls, ts, v, d, rfl, _⟩ := h
    rfl
  · obtain ⟨N, t, n, ms, ls, ts, v, d, rfl, x, hd, bad, q⟩ := h
    obtain ⟨dx, fs, e1, nl⟩ := x.ins
    refine ⟨_, (pss_one (ps_if (pt_not (pt_val (C8.pe_c c_is_whole hr (by decide) (by rfl) (pa_cons (pv 1) (pa_cons pe_int (pa_cons (pe_op op_sub (pe_mt0 m_many hr (by decide) (pv 0)) pe_int) pa_nil))))))
          (pss_one (ps_raiseE rfl R.e_NoMake R.g_NoMake hr (takes_of rfl rfl rfl rfl) (by exact (pa_cons (pv 1) pa_nil)) (by rfl))) pss_nil)), ?_⟩
    refine ⟨_, rfl, _, rfl, t, dx, fs, rfl, e1, nl _ (by decide), N, t, n, ms, ls, ts, rfl, x, _, _, rfl, rfl, v, d, 0, _, rfl, hd, _, rfl, ?_⟩
    rw [bad]
    exact iteT ⟨_, rfl, v, rfl, q⟩
theorem ok_growB (T : Txt K mg) (OC : TouC K CT) (x_need : MetX P w K mg base 2 CT "_need_make" (spTBad K CN CT CO)) (m_many : Met P w K mg base 1 CT "many" (spTMany CT CO) []) (m_behind : Met P w K mg base 3 CO "behind" (spBehind CO) []) (M : MAt K CT "grow" "Tour.grow" s_Tour_grow ["self", "make"]) : MetX P w K mg base 4 CT "grow" (spTBad K CN CT CO) := by
  refine M.metX OC.cl sc_Tour_grow (fun vs H Q E h => ?_) (fun f cdv A outer s H vs Q E hr h => ?_)
  · obtain ⟨N, t, n, ms, ls, ts, v, d, rfl, _⟩ := h
    rfl
  · obtain ⟨N, t, n, ms, ls, ts, v, d, rfl, x, hd, bad, q⟩ := h
    obtain ⟨dx, fs, e1, nl⟩ := x.ins
    refine ⟨_, (pss_cons (ps_expr (pe_mtX x_need hr (by decide) (takes_of rfl rfl rfl rfl) (pv 0) (pa_cons (pv 1) pa_nil)))
      (pss_cons (ps_set (i := 2) sc_Tour_grow.nd rfl (Or.inl rfl) (pe_mt0 m_many hr (by decide) (pv 0)))
      (pss_cons (ps_if (pt_cmpR op_ge (pv 2) (pe_gi rfl T.g_MOST_MAKES) (nomark _))
          (pss_one ps_never) pss_nil)
      (pss_cons (ps_set (i := 3) sc_Tour_grow.nd rfl (Or.inl rfl) (pe_mt m_behind hr (by decide) (pe_fld (pv 0) rfl) (pa_cons (pe_ix ix_tup (pe_ix ix_list (pe_fld (pv 0) rfl) (pv 1) (fun _ _ => rfl)) pe_int (fun _ _ => rfl)) pa_nil)))
      (pss_cons (ps_set (i := 4) sc_Tour_grow.nd rfl (Or.inl rfl) (pe_mt m_behind hr (by decide) (pe_fld (pv 0) rfl) (pa_cons (pv 3) pa_nil)))
      (pss_cons (ps_expr (pe_bm PySem.F.plainAttrs_list PySem.F.slot_list_append PySem.F.type_list_append mt_append (pe_fld (pv 0) rfl) (pa_cons (pe_tup (pa_cons (pv 3) (pa_cons (pv 4) pa_nil))) pa_nil)))
      (pss_one (ps_ret (pv 2))))))))), ?_⟩
    exact ⟨_, rfl, t, dx, fs, rfl, e1, nl _ (by decide), _, rfl, N, t, n, ms, ls, ts, v, d, rfl, x, hd, bad, q⟩
end
end K18
set_option maxHeartbeats 1000000
namespace K18
open PySem PySem.Spec PyProof.Rows L2 Gd
/-! lines and makes above -/
theorem ow_of {ow : List Nat} (low : Lf.Low ow) : Ow (0 :: ow) := fun m h0 hl => by
  obtain ⟨k, rfl⟩ : ∃ k, m = k + 1 := ⟨m - 1, by omega⟩
  have := Lf.par_lt low (i := k + 1) (by omega)
  unfold Lf.par at this
  exact this
theorem par_get (ow : List Nat) {m : Nat} (h0 : 0 < m) : (0 :: ow).getD m 0 = Lf.par ow m := by
  obtain ⟨k, rfl⟩ : ∃ k, m = k + 1 := ⟨m - 1, by omega⟩
  rfl
theorem line_abv {ow : List Nat} (low : Lf.Low ow) : ∀ i, i ≤ ow.length → ∀ x, x ∈ Lf.line ow i ↔ x = i ∨ x ∈ abv (0 :: ow) i := by
  intro i
  induction i using Nat.strongRecOn with
  | ind i ih =>
    intro hi x
    by_cases z : i = 0
    · subst z
      rw [Lf.line_zero]
      show x ∈ [0] ↔ x = 0 ∨ x ∈ ([] : List Nat)
      simp
    · have hp := Lf.par_lt low (by omega : 0 < i)
      rw [Lf.line_step low (by omega), List.mem_append, ih _ hp (by omega) x, abv_step (m := i) (ow_of low) (by omega) (by show i < ow.length + 1; omega), par_get ow (by omega), List.mem_singleton, List.mem_cons]
      exact or_comm
theorem in_self {ow : List Nat} (low : Lf.Low ow) (i : Nat) : i ∈ Lf.line ow i := by
  by_cases z : i = 0
  · subst z
    exact List.mem_singleton.mpr rfl
  · rw [Lf.line_step low (by omega)]
    exact List.mem_append_right _ (List.mem_singleton.mpr rfl)
theorem in_trans {ow : List Nat} (low : Lf.Low ow) {x y i : Nat} (h1 : x ∈ Lf.line ow y) (h2 : y ∈ Lf.line ow i) : x ∈ Lf.line ow i := by
  obtain ⟨r, e⟩ := Lf.line_pre low i y h2
  rw [e]
  exact List.mem_append_left _ h1
/-- who is on two lines is on that of the nearest -/
theorem in_near {ow : List Nat} (low : Lf.Low ow) : ∀ (f i j y : Nat), i + j ≤ f → y ∈ Lf.line ow i → y ∈ Lf.line ow j → y ∈ Lf.line ow (Lf.nearL (Lf.line ow i) (Lf.line ow j)) := by
  intro f
  induction f with
  | zero =>
    intro i j y hf h1 h2
    obtain rfl : i = 0 := by omega
    obtain rfl : j = 0 := by omega
    rw [Lf.near_self low]
    exact h1
  | succ f ih =>
    intro i j y hf h1 h2
    rcases Nat.lt_trichotomy i j with h | rfl | h
    · have hp := Lf.par_lt low (by omega : 0 < j)
      rw [← Lf.near_right low h]
      rw [Lf.line_step low (by omega : 0 < j)] at h2
      rcases List.mem_append.mp h2 with h2 | h2
      · exact ih _ _ _ (by omega) h1 h2
      · have := Lf.line_le low i y h1
        have := List.mem_singleton.mp h2
        omega
    · rw [Lf.near_self low]
      exact h1
    · have hp := Lf.par_lt low (by omega : 0 < i)
      rw [← Lf.near_left low h]
      rw [Lf.line_step low (by omega : 0 < i)] at h1
      rcases List.mem_append.mp h1 with h1 | h1
      · exact ih _ _ _ (by omega) h1 h2
      · have := Lf.line_le low j y h2
        have := List.mem_singleton.mp h1
        omega
theorem near_iff {ow : List Nat} (low : Lf.Low ow) (i j x : Nat) : (x ∈ Lf.line ow i ∧ x ∈ Lf.line ow j) ↔ x ∈ Lf.line ow (Lf.nearL (Lf.line ow i) (Lf.line ow j)) :=
  ⟨fun h => in_near low _ i j x (Nat.le_refl _) h.1 h.2, fun h => ⟨in_trans low h (Lf.near_on low i j), in_trans low h (Lf.near_on2 low i j)⟩⟩
theorem near_one {ow : List Nat} (low : Lf.Low ow) (i j : Nat) : Lf.nearL (Lf.line ow i) (Lf.line ow j) = i ↔ i ∈ Lf.line ow j := by
  refine ⟨fun e => by have := Lf.near_on2 low i j; rw [e] at this; exact this, fun h => ?_⟩
  have h1 := Lf.line_le low _ _ ((near_iff low i j i).mp ⟨in_self low i, h⟩)
  have h2 := Lf.line_le low _ _ (Lf.near_on low i j)
  omega
theorem near_two {ow : List Nat} (low : Lf.Low ow) (i j : Nat) : Lf.nearL (Lf.line ow i) (Lf.line ow j) = j ↔ j ∈ Lf.line ow i := by
  rw [Lf.near_comm, near_one low j i]
theorem line_up {ow : List Nat} (low : Lf.Low ow) : ∀ i, (Lf.line ow i).Pairwise (· < ·) := by
  intro i
  induction i using Nat.strongRecOn with
  | ind i ih =>
    by_cases z : i = 0
    · subst z
      rw [Lf.line_zero]
      exact List.pairwise_singleton _ _
    · have hp := Lf.par_lt low (by omega : 0 < i)
      rw [Lf.line_step low (by omega), List.pairwise_append]
      refine ⟨ih _ hp, List.pairwise_singleton _ _, fun a ha b hb => ?_⟩
      have := Lf.line_le low _ _ ha
      have := List.mem_singleton.mp hb
      omega
theorem line_nd {ow : List Nat} (low : Lf.Low ow) (i : Nat) : (Lf.line ow i).Nodup := (line_up low i).imp fun h => Nat.ne_of_lt h
/-- on one line, who is as deep is the same -/
theorem deep_eq {ow : List Nat} (low : Lf.Low ow) {x z : Nat} (h : x ∈ Lf.line ow z) (hd : (Lf.line ow z).length - 1 ≤ (Lf.line ow x).length - 1) : x = z := by
  obtain ⟨r, e⟩ := Lf.line_pre low z x h
  have hl := congrArg List.length e
  rw [List.length_append] at hl
  have px : 0 < (Lf.line ow x).length := Lf.line_pos low x
  have pz : 0 < (Lf.line ow z).length := Lf.line_pos low z
  have hr : r = [] := List.length_eq_zero_iff.mp (by omega)
  rw [hr, List.append_nil] at e
  have := in_self low z
  rw [e] at this
  have a := Lf.line_le low _ _ this
  have b := Lf.line_le low _ _ h
  omega
theorem deep_le {ow : List Nat} (low : Lf.Low ow) {x z : Nat} (h : x ∈ Lf.line ow z) : (Lf.line ow x).length - 1 ≤ (Lf.line ow z).length - 1 := by
  obtain ⟨r, e⟩ := Lf.line_pre low z x h
  have hl := congrArg List.length e
  rw [List.length_append] at hl
  omega
/-! the marks of a tour, as its makes lie in one another -/
def Lam (ms : List Nat) (n : Nat) : Prop := ∀ (a b i j e k : Nat), a < n → b < n → ms[i]? = some (2 * a) → ms[j]? = some (2 * b) → ms[e]? = some (2 * a + 1) → ms[k]? = some (2 * b + 1) → i < j → j < e → k < e
theorem Lam.start : Lam [0, 1] 1 := fun a b i j e k ha hb h1 h2 h3 h4 l1 l2 => by
  obtain rfl : a = 0 := by omega
  obtain rfl : b = 0 := by omega
  have nd : ∀ i j : Nat, ([0, 1] : List Nat)[i]? = some 0 → ([0, 1] : List Nat)[j]? = some 0 → i = j := fun i j h1 h2 => by
    match i, j, h1, h2 with
    | 0, 0, _, _ => rfl
    | 0, 1, _, h => cases h
    | 0, j + 2, _, h => cases h
    | 1, _, h, _ => cases h
    | i + 2, _, h, _ => cases h
  have := nd i j h1 h2
  omega
theorem Lam.grow {ms : List Nat} {n j w : Nat} (h : Lam ms n) (hj : j < n) (hlen : ms.length = 2 * n) (has : ∀ k, k < 2 * n → ∃ i : Nat, ms[i]? = some k)
    (nd2 : ∀ (i j m : Nat), (msG ms w)[i]? = some m → (msG ms w)[j]? = some m → i = j) (hw : w < ms.length) : Lam (msG ms w) (n + 1) := by
  have old : ∀ x i, x < 2 * n → (msG ms w)[i]? = some x → ∃ i0, ms[i0]? = some x ∧ i = sh w i0 := fun x i hx hi => by
    obtain ⟨i0, h0⟩ := has x hx
    exact ⟨i0, h0, nd2 _ _ _ hi (msG_old hw h0)⟩
  have ha := msG_a (ms := ms) hw
  have hb := msG_b (ms := ms) hw
  rw [hlen] at ha hb
  intro a b i j' e k la lb h1 h2 h3 h4 l1 l2
  by_cases za : a < n
  · obtain ⟨i0, g1, rfl⟩ := old _ _ (by omega) h1
    obtain ⟨e0, g3, rfl⟩ := old _ _ (by omega) h3
    by_cases zb : b < n
    · obtain ⟨j0, g2, rfl⟩ := old _ _ (by omega) h2
      obtain ⟨k0, g4, rfl⟩ := old _ _ (by omega) h4
      exact sh_lt.mpr (h a b i0 j0 e0 k0 za zb g1 g2 g3 g4 (sh_lt.mp l1) (sh_lt.mp l2))
    · obtain rfl : b = n := by omega
      have e2 := nd2 _ _ _ h2 ha
      have e4 := nd2 _ _ _ h4 hb
      subst e2
      subst e4
      unfold sh at l2 ⊢
      split at l2 <;> split <;> omega
  · obtain rfl : a = n := by omega
    have e1 := nd2 _ _ _ h1 ha
    have e3 := nd2 _ _ _ h3 hb
    omega
/-- a tour's marks and its tree's owners -/
structure Fits (ms ow : List Nat) (n : Nat) : Prop where
  low : Lf.Low ow
  cnt : n = ow.length + 1
  len : ms.length = 2 * n
  nd : ∀ (i j m : Nat), ms[i]? = some m → ms[j]? = some m → i = j
  has : ∀ k, k < 2 * n → ∃ i : Nat, ms[i]? = some k
  lt : ∀ k, k ∈ ms → k < 2 * n
  nest : Nest ms (0 :: ow) n
  lam : Lam ms n
theorem Fits.at_ {ms ow : List Nat} {n k : Nat} (f : Fits ms ow n) (h : k < 2 * n) : ms[ms.idxOf k]? = some k := by
  obtain ⟨i, hi⟩ := f.has k h
  rw [idx_at f.nd hi]
  exact hi
theorem Fits.ins {ms ow : List Nat} {n a b : Nat} (f : Fits ms ow n) (ha : a < n) (hb : b < n) : insB ms a b = true ↔ a ∈ abv (0 :: ow) b := by
  unfold insB
  rw [Bool.and_eq_true, decide_eq_true_eq, decide_eq_true_eq]
  exact f.nest.two a b _ _ _ ha hb (f.at_ (by omega)) (f.at_ (by omega)) (f.at_ (by omega))
theorem Fits.within {ms ow : List Nat} {n a b : Nat} (f : Fits ms ow n) (ha : a < n) (hb : b < n) : (decide (a = b) || insB ms a b) = decide (a ∈ Lf.line ow b) := by
  have := f.cnt
  have e := line_abv f.low b (by omega) a
  have i := f.ins ha hb
  by_cases z : a ∈ Lf.line ow b
  · rw [decide_eq_true z]
    rcases e.mp z with h | h
    · rw [decide_eq_true h]
      rfl
    · rw [i.mpr h, Bool.or_true]
  · rw [decide_eq_false z]
    have h1 : ¬ a = b := fun h => z (e.mpr (.inl h))
    have h2 : insB ms a b = false := by
      cases h : insB ms a b with
      | false => rfl
      | true => exact absurd (e.mpr (.inr (i.mp h))) z
    rw [decide_eq_false h1, h2]
    rfl
theorem Fits.apart {ms ow : List Nat} {n a b : Nat} (f : Fits ms ow n) (ha : a < n) (hb : b < n) :
    (ms.idxOf (2 * a + 1) < ms.idxOf (2 * b) ∨ ms.idxOf (2 * b + 1) < ms.idxOf (2 * a)) ↔ (Lf.nearL (Lf.line ow a) (Lf.line ow b) ≠ a ∧ Lf.nearL (Lf.line ow a) (Lf.line ow b) ≠ b) := by
  have cn := f.cnt
  rw [Ne, near_one f.low, Ne, near_two f.low, line_abv f.low b (by omega), line_abv f.low a (by omega)]
  have o1 := f.nest.one a _ _ ha (f.at_ (by omega)) (f.at_ (by omega))
  have o2 := f.nest.one b _ _ hb (f.at_ (by omega)) (f.at_ (by omega))
  have t1 := f.nest.two a b _ _ _ ha hb (f.at_ (by omega)) (f.at_ (by omega)) (f.at_ (by omega))
  have t2 := f.nest.two b a _ _ _ hb ha (f.at_ (by omega)) (f.at_ (by omega)) (f.at_ (by omega))
  rw [← t1, ← t2]
  have ne : ∀ x y : Nat, x < 2 * n → y < 2 * n → x ≠ y → ms.idxOf x ≠ ms.idxOf y := fun x y hx hy h e => by
    have h1 := f.at_ hx
    have h2 := f.at_ hy
    rw [e, h2] at h1
    exact h (Option.some.inj h1).symm
  by_cases e : a = b
  · subst e
    constructor
    · intro h
      omega
    · intro h
      exact absurd (.inl rfl) h.1
  · have n1 := ne (2 * a) (2 * b) (by omega) (by omega) (by omega)
    have n2 := ne (2 * a + 1) (2 * b) (by omega) (by omega) (by omega)
    have n3 := ne (2 * b + 1) (2 * a) (by omega) (by omega) (by omega)
    constructor
    · intro h
      refine ⟨fun z => ?_, fun z => ?_⟩
      · rcases z with z | z
        · exact e z
        · omega
      · rcases z with z | z
        · exact e z.symm
        · omega
    · rintro ⟨h1, h2⟩
      have h1 : ¬ (ms.idxOf (2 * a) < ms.idxOf (2 * b) ∧ ms.idxOf (2 * b) < ms.idxOf (2 * a + 1)) := fun z => h1 (.inr z)
      have h2 : ¬ (ms.idxOf (2 * b) < ms.idxOf (2 * a) ∧ ms.idxOf (2 * a) < ms.idxOf (2 * b + 1)) := fun z => h2 (.inr z)
      omega
end K18
set_option maxHeartbeats 1000000
namespace K18
open PySem PySem.Spec PyProof.Rows L2 Gd
/-! coming and leaving -/
theorem nd_of {ms : List Nat} (nd : ∀ (i j m : Nat), ms[i]? = some m → ms[j]? = some m → i = j) : ms.Nodup := by
  refine List.pairwise_iff_getElem.mpr fun i j hi hj hij e => ?_
  have h1 : ms[i]? = some ms[i] := List.getElem?_eq_getElem hi
  have h2 : ms[j]? = some ms[i] := by rw [List.getElem?_eq_getElem hj, e]
  have := nd _ _ _ h1 h2
  omega
theorem nd_byL {e : Nat} {ms : List Nat} (h : ms.Nodup) : (byL e ms).Nodup := by
  unfold byL
  refine List.pairwise_map.mpr ?_
  refine List.Pairwise.imp_of_mem (R := (· ≠ ·)) (fun {a b} ha hb hab => ?_) (List.Pairwise.filter _ h)
  have h1 := (List.mem_filter.mp ha).2
  have h2 := (List.mem_filter.mp hb).2
  simp only [beq_iff_eq] at h1 h2
  show a / 2 ≠ b / 2
  omega
theorem mem_byL {e x : Nat} {ms : List Nat} (he : e < 2) : x ∈ byL e ms ↔ 2 * x + e ∈ ms := by
  unfold byL
  rw [List.mem_map]
  constructor
  · rintro ⟨k, hk, rfl⟩
    obtain ⟨h1, h2⟩ := List.mem_filter.mp hk
    simp only [beq_iff_eq] at h2
    rw [show 2 * (k / 2) + e = k from by omega]
    exact h1
  · intro h
    exact ⟨_, List.mem_filter.mpr ⟨h, by simp only [beq_iff_eq]; omega⟩, by omega⟩
theorem byL_cons {e k : Nat} {ms : List Nat} : byL e (k :: ms) = if k % 2 = e then k / 2 :: byL e ms else byL e ms := by
  unfold byL
  rw [List.filter_cons]
  by_cases h : k % 2 = e
  · rw [if_pos h, if_pos (by simpa using h)]
    rfl
  · rw [if_neg h, if_neg (by simpa using h)]
theorem drop_at {ms : List Nat} {i k : Nat} (h : ms[i]? = some k) : ms.drop i = k :: ms.drop (i + 1) := by
  have hl : i < ms.length := lt_at h
  rw [List.drop_eq_getElem_cons hl]
  rw [List.getElem?_eq_getElem hl] at h
  rw [Option.some.inj h]
theorem cut_two {ms : List Nat} {p q x y : Nat} (hp : ms[p]? = some x) (hq : ms[q]? = some y) (h : p < q) : ∃ A S D, ms = A ++ x :: (S ++ y :: D) ∧ A.length = p ∧ S.length = q - p - 1 := by
  have lp := lt_at hp
  have lq := lt_at hq
  refine ⟨ms.take p, (ms.drop (p + 1)).take (q - p - 1), ms.drop (q + 1), ?_, by rw [List.length_take]; omega, by rw [List.length_take, List.length_drop]; omega⟩
  have e1 : ms.drop q = (ms.drop (p + 1)).drop (q - p - 1) := by
    rw [List.drop_drop]
    congr 1
    omega
  rw [← drop_at hq, e1, List.take_append_drop, ← drop_at hp, List.take_append_drop]
theorem in_mid {A S D : List Nat} {x y z i : Nat} (h1 : A.length < i) (h2 : i < A.length + 1 + S.length) (h : (A ++ x :: (S ++ y :: D))[i]? = some z) : z ∈ S := by
  rw [List.getElem?_append_right (by omega), show i - A.length = (i - A.length - 1) + 1 from by omega, List.getElem?_cons_succ, List.getElem?_append_left (by omega)] at h
  exact List.mem_of_getElem? h
theorem Fits.stretch {ms ow : List Nat} {n a : Nat} (f : Fits ms ow n) (ha : a < n) : ∃ X B Y X' B' Y' : List Nat, byL 0 ms = X ++ a :: (B ++ Y) ∧ byL 1 ms = X' ++ (B' ++ a :: Y') ∧ (byL 0 ms).filter (insB ms a) = B ∧ B'.Perm B := by
  have hp := f.at_ (k := 2 * a) (by omega)
  have hq := f.at_ (k := 2 * a + 1) (by omega)
  have hpq := f.nest.one a _ _ ha hp hq
  obtain ⟨A, S, D, e, lA, lS⟩ := cut_two hp hq hpq
  have n0 := nd_of f.nd
  have posA : ∀ x, x ∈ A → ms.idxOf x < ms.idxOf (2 * a) := fun x hx => by
    obtain ⟨i, hi, rfl⟩ := List.getElem_of_mem hx
    have : ms[i]? = some A[i] := by
      rw [e, List.getElem?_append_left hi, List.getElem?_eq_getElem hi]
    rw [idx_at f.nd this]
    omega
  have posS : ∀ x, x ∈ S → ms.idxOf (2 * a) < ms.idxOf x ∧ ms.idxOf x < ms.idxOf (2 * a + 1) := fun x hx => by
    obtain ⟨i, hi, rfl⟩ := List.getElem_of_mem hx
    have : ms[A.length + (i + 1)]? = some S[i] := by
      rw [e, List.getElem?_append_right (by omega), show A.length + (i + 1) - A.length = i + 1 from by omega, List.getElem?_cons_succ, List.getElem?_append_left hi, List.getElem?_eq_getElem hi]
    rw [idx_at f.nd this]
    omega
  have posD : ∀ x, x ∈ D → ms.idxOf (2 * a + 1) < ms.idxOf x := fun x hx => by
    obtain ⟨i, hi, rfl⟩ := List.getElem_of_mem hx
    have : ms[A.length + ((S.length + (i + 1)) + 1)]? = some D[i] := by
      rw [e, List.getElem?_append_right (by omega), show A.length + ((S.length + (i + 1)) + 1) - A.length = (S.length + (i + 1)) + 1 from by omega, List.getElem?_cons_succ, List.getElem?_append_right (by omega), show S.length + (i + 1) - S.length = i + 1 from by omega, List.getElem?_cons_succ, List.getElem?_eq_getElem hi]
    rw [idx_at f.nd this]
    omega
  have inS : ∀ x, x < 2 * n → ms.idxOf (2 * a) < ms.idxOf x → ms.idxOf x < ms.idxOf (2 * a + 1) → x ∈ S := fun x hx h1 h2 => by
    have := f.at_ hx
    rw [e] at this
    rw [← e] at this
    refine in_mid (A := A) (D := D) (x := 2 * a) (y := 2 * a + 1) (i := ms.idxOf x) (by omega) (by omega) ?_
    rw [← e]
    exact this
  have sub : ∀ x, x ∈ A ∨ x ∈ S ∨ x ∈ D → x ∈ ms := fun x h => by
    rw [e]
    rcases h with h | h | h
    · exact List.mem_append_left _ h
    · exact List.mem_append_right _ (List.mem_cons_of_mem _ (List.mem_append_left _ h))
    · exact List.mem_append_right _ (List.mem_cons_of_mem _ (List.mem_append_right _ (List.mem_cons_of_mem _ h)))
  have c0 : byL 0 ms = byL 0 A ++ a :: (byL 0 S ++ byL 0 D) := by
    rw [e, byL_app, byL_cons, if_pos (by omega), byL_app, byL_cons, if_neg (by omega), show 2 * a / 2 = a from by omega]
  have c1 : byL 1 ms = byL 1 A ++ (byL 1 S ++ a :: byL 1 D) := by
    rw [e, byL_app, byL_cons, if_neg (by omega), byL_app, byL_cons, if_pos (by omega), show (2 * a + 1) / 2 = a from by omega]
  have nS : S.Nodup := by
    rw [e] at n0
    have := (List.pairwise_append.mp n0).2.1
    exact (List.pairwise_append.mp (List.pairwise_cons.mp this).2).1
  refine ⟨byL 0 A, byL 0 S, byL 0 D, byL 1 A, byL 1 S, byL 1 D, c0, c1, ?_, ?_⟩
  · have z0 : ∀ x, x ∈ byL 0 A → insB ms a x = false := fun x hx => by
      have := posA _ ((mem_byL (by omega)).mp hx)
      unfold insB
      rw [decide_eq_false (by simp only [Nat.add_zero] at this; omega), Bool.false_and]
    have z1 : insB ms a a = false := by
      unfold insB
      rw [decide_eq_false (Nat.lt_irrefl _), Bool.false_and]
    have z2 : ∀ x, x ∈ byL 0 S → insB ms a x = true := fun x hx => by
      have := posS _ ((mem_byL (by omega)).mp hx)
      simp only [Nat.add_zero] at this
      unfold insB
      rw [decide_eq_true this.1, decide_eq_true this.2]
      rfl
    have z3 : ∀ x, x ∈ byL 0 D → insB ms a x = false := fun x hx => by
      have := posD _ ((mem_byL (by omega)).mp hx)
      simp only [Nat.add_zero] at this
      unfold insB
      rw [decide_eq_false (p := ms.idxOf (2 * x) < ms.idxOf (2 * a + 1)) (by omega), Bool.and_false]
    rw [c0, List.filter_append, List.filter_cons_of_neg (by rw [z1]; decide), List.filter_append, List.filter_eq_nil_iff.mpr (fun x hx => by rw [z0 x hx]; decide), List.filter_eq_self.mpr z2, List.filter_eq_nil_iff.mpr (fun x hx => by rw [z3 x hx]; decide), List.nil_append, List.append_nil]
  · refine (List.perm_ext_iff_of_nodup (nd_byL nS) (nd_byL nS)).mpr fun x => ?_
    rw [mem_byL (by omega), mem_byL (by omega)]
    show 2 * x + 1 ∈ S ↔ 2 * x ∈ S
    constructor
    · intro h
      obtain ⟨h1, h2⟩ := posS _ h
      have hx : 2 * x + 1 < 2 * n := f.lt _ (sub _ (.inr (.inl h)))
      have o := f.nest.one x _ _ (by omega) (f.at_ (k := 2 * x) (by omega)) (f.at_ hx)
      by_cases z : x = a
      · subst z
        omega
      · have ne : ms.idxOf (2 * x) ≠ ms.idxOf (2 * a) := fun e => by
          have g1 := f.at_ (k := 2 * x) (by omega)
          rw [e, hp] at g1
          have := Option.some.inj g1
          omega
        by_cases hl : ms.idxOf (2 * x) < ms.idxOf (2 * a)
        · have := f.lam x a _ _ _ _ (by omega) ha (f.at_ (k := 2 * x) (by omega)) hp (f.at_ hx) hq hl h1
          omega
        · exact inS _ (by omega) (by omega) (by omega)
    · intro h
      obtain ⟨h1, h2⟩ := posS _ h
      have hx : 2 * x < 2 * n := f.lt _ (sub _ (.inr (.inl h)))
      have hc := f.at_ (k := 2 * x + 1) (by omega)
      have o := f.nest.one x _ _ (by omega) (f.at_ hx) hc
      have := f.lam a x _ _ _ _ ha (by omega) hp (f.at_ hx) hq hc h1 h2
      exact inS _ (by omega) (by omega) this
/-- two sorted lists of the same numbers -/
theorem sorted_same {ns1 ns2 : List Int} {xs ys : List Nat} (p1 : ns1.Perm (xs.map fun n => ((n : Nat) : Int))) (s1 : ns1.Pairwise (· ≤ ·)) (p2 : ns2.Perm (ys.map fun n => ((n : Nat) : Int))) (s2 : ns2.Pairwise (· ≤ ·)) (h : xs.Perm ys) : ns1 = ns2 :=
  List.Perm.eq_of_pairwise (le := (· ≤ ·)) (fun a b _ _ h1 h2 => Int.le_antisymm h1 h2) s1 s2 (p1.trans ((h.map _).trans p2.symm))
theorem perm_of_mem {xs ys : List Nat} (n1 : xs.Nodup) (n2 : ys.Nodup) (h : ∀ x, x ∈ xs ↔ x ∈ ys) : xs.Perm ys := (List.perm_ext_iff_of_nodup n1 n2).mpr h
theorem Fits.mem_com {ms ow : List Nat} {n x : Nat} (f : Fits ms ow n) : x ∈ byL 0 ms ↔ x < n := by
  rw [mem_byL (by omega)]
  constructor
  · intro h
    have := f.lt _ h
    omega
  · intro h
    exact List.mem_of_getElem? (f.at_ (by omega))
theorem Fits.nd_com {ms ow : List Nat} {n : Nat} (f : Fits ms ow n) (e : Nat) : (byL e ms).Nodup := nd_byL (nd_of f.nd)
theorem Fits.len_com {ms ow : List Nat} {n : Nat} (f : Fits ms ow n) (e : Nat) : (byL e ms).length ≤ 2 * n := by
  have := byL_len e ms
  have := f.len
  omega
end K18
set_option maxHeartbeats 1000000
namespace K18
open PySem PySem.Spec PyProof.Rows L2 Gd Gx
open C8 (clsBody Met pe_mt pe_mt0)
theorem boot_sorted_ : bootBuiltins "sorted" = some (.builtin "sorted") := by decide +kernel
theorem cut_mid {X B Y : List V} {i j : Int} (hi : i = (X.length : Nat)) (hj : j = ((X.length + B.length : Nat) : Int)) : cutV (X ++ (B ++ Y)) (some i) (some j) = B := by
  subst hi
  subst hj
  unfold cutV
  rw [HT.sIx_nat, HT.sIx_nat, List.length_append, List.length_append, Nat.min_eq_left (by omega), Nat.min_eq_left (by omega), List.drop_left, show X.length + B.length - X.length = B.length from by omega, List.take_left]
theorem nums_int (xs : List Nat) : xs.map num = (xs.map fun n => ((n : Nat) : Int)).map V.int := by
  rw [List.map_map]
  rfl
theorem intsD {K : PySem.W.Frag} {H : Hp} : ∀ xs : List Int, DpAll K H (xs.map V.int) (xs.map PyData.int)
  | [] => .nil
  | x :: xs => .cons (.int _) (intsD xs)
theorem can_ints (xs : List Int) : PyData.canLay0 (.list (xs.map PyData.int)) = true := by
  simp only [PyData.canLay0]
  induction xs with
  | nil => simp [PyData.canLayAll0]
  | cons x xs ih => simp [PyData.canLayAll0, PyData.canLay0, ih]
theorem sh_ints (xs : List Int) : SeqAt.shaped (.list (xs.map PyData.int)) = true := by
  have h : PyData.depthAll (xs.map PyData.int) ≤ 1 := by
    induction xs with
    | nil => simp [PyData.depthAll]
    | cons x xs ih =>
      simp only [List.map_cons, PyData.depthAll, PyData.depth]
      omega
  unfold SeqAt.shaped
  rw [can_ints]
  simp only [PyData.depth, Bool.true_and]
  exact decide_eq_true (by omega)
theorem int_num (xs : List Nat) : (xs.map fun n => ((n : Nat) : Int)).map PyData.int = xs.map fun n => PyData.int (n : Nat) := by
  rw [List.map_map]
  rfl
theorem can_nums (xs : List Nat) : PyData.canLay0 (.list (xs.map fun n => PyData.int (n : Nat))) = true := by
  rw [← int_num]
  exact can_ints _
theorem sh_nums (xs : List Nat) : SeqAt.shaped (.list (xs.map fun n => PyData.int (n : Nat))) = true := by
  rw [← int_num]
  exact sh_ints _
section
variable {P : Program} {w : World} {K : PySem.W.Frag} {mg : Str → Option Value} {base : Heap} {CT CO CL : Addr}
def spStretch (CT CO : Addr) : Sp := fun vs H Q _ => ∃ (N : Addr → Prop) (t : Addr) (n : Nat) (ms ls : List Nat) (ts a : Nat) (ow : List Nat), vs = [.ref t, num a] ∧ TouA N H t CT CO n ms ls ts ∧ Fits ms ow n ∧ a < n ∧ n ≤ 64 ∧ ∀ H', Same H H' → Q (.bl true) H'
theorem ok_stretch (T : Txt K mg) (m_beneath : Met P w K mg base 6 CT "beneath" (spBen CT CO) []) (m_coming : Met P w K mg base 3 CT "coming" (spCom 0 CT CO) []) (m_leaving : Met P w K mg base 3 CT "leaving" (spCom 1 CT CO) []) (D : DefAt K mg "_law_stretch_right" s__law_stretch_right ["_law_tour", "_law_make"]) : CalG P w K mg base 7 "_law_stretch_right" (spStretch CT CO) := by
  refine D.cal sc__law_stretch_right (fun vs H Q E h => ?_) (fun f cdv A outer s H vs Q E hG hr h => ?_)
  · obtain ⟨N, t, n, ms, ls, ts, a, ow, rfl, _⟩ := h
    rfl
  · obtain ⟨N, t, n, ms, ls, ts, a, ow, rfl, x, f, ha, hn, q⟩ := h
    obtain ⟨X, B, Y, X', B', Y', c0, c1, cB, cP⟩ := f.stretch ha
    have nd0 := f.nd_com 0
    have nd1 := f.nd_com 1
    obtain ⟨dx, fs, e1, nl⟩ := x.ins
    refine ⟨_, (pss_cons (ps_set (i := 2) sc__law_stretch_right.nd rfl (Or.inl rfl) (pe_mt m_beneath hr (by decide) (pv 0) (pa_cons (pv 1) pa_nil)))
      (pss_cons (ps_set (i := 3) sc__law_stretch_right.nd rfl (Or.inl rfl) (pe_mt0 m_coming hr (by decide) (pv 0)))
      (pss_cons (ps_set (i := 4) sc__law_stretch_right.nd rfl (Or.inl rfl) (pe_mt0 m_leaving hr (by decide) (pv 0)))
      (pss_cons (ps_set (i := 5) sc__law_stretch_right.nd rfl (Or.inl rfl) (pe_bm PySem.F.plainAttrs_list PySem.F.slot_list_index PySem.F.type_list_index mt_index (pv 3) (pa_cons (pv 1) pa_nil)))
      (pss_cons (ps_if (pt_cmpR (op_neD (hu64 hr)) (pe_slice sl_list (pv 3) (po_some (pe_op op_add (pv 5) pe_int)) (po_some (pe_op op_add (pe_op op_add (pv 5) pe_int) (pe_callB call_len (by rfl) T.b_len boot_len_ (pa_cons (pv 2) pa_nil))))) (pv 2) (nomark _))
          (pss_one (ps_ret pe_bl)) pss_nil)
      (pss_cons (ps_set (i := 6) sc__law_stretch_right.nd rfl (Or.inl rfl) (pe_bm PySem.F.plainAttrs_list PySem.F.slot_list_index PySem.F.type_list_index mt_index (pv 4) (pa_cons (pv 1) pa_nil)))
      (pss_one (ps_ret (pe_cmpR (op_eqD (hu64 hr)) (pe_callB cr_sortedI (by rfl) T.b_sorted boot_sorted_ (pa_cons (pe_slice sl_list (pv 4) (po_some (pe_op op_sub (pv 6) (pe_callB call_len (by rfl) T.b_len boot_len_ (pa_cons (pv 2) pa_nil)))) (po_some (pv 6))) pa_nil)) (pe_callB cr_sortedI (by rfl) T.b_sorted boot_sorted_ (pa_cons (pv 2) pa_nil)) (nomark _)))))))))), ?_⟩
    refine ⟨_, rfl, t, dx, fs, rfl, e1, nl _ (by decide), _, rfl, N, t, n, ms, ls, ts, a, rfl, x, ha, hn, fun pb H1 nb s1 eb => ?_⟩
    rw [cB] at eb
    have x1 := x.same s1
    obtain ⟨dx1, fs1, e11, nl1⟩ := x1.ins
    refine ⟨_, rfl, t, dx1, fs1, rfl, e11, nl1 _ (by decide), N, t, n, ms, ls, ts, rfl, x1, hn, fun pc H2 nc s2 ec => ?_⟩
    have x2 := x1.same s2
    obtain ⟨dx2, fs2, e12, nl2⟩ := x2.ins
    refine ⟨_, rfl, t, dx2, fs2, rfl, e12, nl2 _ (by decide), N, t, n, ms, ls, ts, rfl, x2, hn, fun pl H3 nlv s3 el => ?_⟩
    have s13 := (s1.trans s2).trans s3
    have eb3 := s3 _ _ (s2 _ _ eb)
    have ec3 := s3 _ _ ec
    rw [c0] at ec3 nd0
    rw [c1] at el nd1
    have noX : ∀ (j z : Nat), j < X.length → (X ++ a :: (B ++ Y))[j]? = some z → z ≠ a := fun j z hj hz e => by
      rw [List.getElem?_append_left hj] at hz
      exact (List.pairwise_append.mp nd0).2.2 z (List.mem_of_getElem? hz) a List.mem_cons_self e
    have noX' : ∀ (j z : Nat), j < X'.length + B'.length → (X' ++ (B' ++ a :: Y'))[j]? = some z → z ≠ a := fun j z hj hz e => by
      rw [← List.append_assoc] at hz nd1
      rw [List.getElem?_append_left (by rw [List.length_append]; omega)] at hz
      exact (List.pairwise_append.mp nd1).2.2 z (List.mem_of_getElem? hz) a List.mem_cons_self e
    have eqn : ∀ z : Nat, z ≠ a → eqV (num z) (num a) = false := fun z h => by
      show eqV (.int (z : Nat)) (.int (a : Nat)) = false
      simp only [eqV, decide_eq_false_iff_not, beq_eq_false_iff_ne]
      intro e
      have e2 : (z : Int) = (a : Int) := by simpa using e
      exact h (by omega)
    refine ⟨_, rfl, .inl ⟨rfl, _, SqL.of ec3⟩, _, rfl, pc, _, num a, X.length, num a, rfl, rfl, SqL.of ec3, rfl, flat_nums _, ?_, by simp [eqV, num], fun j z hj hz => ?_, ?_⟩
    · rw [List.getElem?_map, List.getElem?_append_right (Nat.le_refl _), Nat.sub_self]
      rfl
    · rw [List.getElem?_map] at hz
      obtain ⟨z', hz', rfl⟩ := Option.map_eq_some_iff.mp hz
      exact eqn _ (noX j z' hj hz')
    refine ⟨_, rfl, _, rfl, _, _, rfl, rfl, _, rfl, _, rfl, _, _, rfl, rfl, _, rfl, .ref pb, _, rfl, .inl ⟨_, SqL.of eb3, rfl⟩, _, _, rfl, rfl, _, rfl, pc, _, rfl, SqL.of ec3, fun p1 hp1 => ?_⟩
    rw [show (X ++ a :: (B ++ Y)).map num = (X ++ [a]).map num ++ (B.map num ++ Y.map num) from by rw [← List.map_append, ← List.map_append, List.append_assoc]; rfl]
    rw [cut_mid (by rw [List.length_map, List.length_append]; rfl) (by rw [List.length_map, List.length_map, List.length_append]; show _ = ((X.length + 1 + B.length : Nat) : Int); omega)]
    have s4 := same_new (o := .lst (B.map num)) hp1
    have e4 : (upd H3 p1 (.lst (B.map num))) p1 = some (.lst (B.map num)) := upd_same
    generalize upd H3 p1 (.lst (B.map num)) = H4 at *
    refine ⟨_, rfl, .list (B.map fun n => PyData.int (n : Nat)), .list (B.map fun n => PyData.int (n : Nat)), .lst (SqL.of e4) (numsD _), .lst (SqL.of (s4 _ _ eb3)) (numsD _), sh_nums _, sh_nums _, _, rfl, ?_⟩
    rw [PySem.SeqAt.eqv_refl _ (can_nums _)]
    refine iteF ?_
    have el4 := s4 _ _ el
    refine ⟨_, rfl, .inl ⟨rfl, _, SqL.of el4⟩, _, rfl, pl, _, num a, X'.length + B'.length, num a, rfl, rfl, SqL.of el4, rfl, flat_nums _, ?_, by simp [eqV, num], fun j z hj hz => ?_, ?_⟩
    · rw [List.getElem?_map, ← List.append_assoc, List.getElem?_append_right (by rw [List.length_append]; omega), List.length_append, Nat.sub_self]
      rfl
    · rw [List.getElem?_map] at hz
      obtain ⟨z', hz', rfl⟩ := Option.map_eq_some_iff.mp hz
      exact eqn _ (noX' j z' hj hz')
    have eb4 := s4 _ _ eb3
    have lB := cP.length_eq
    refine ⟨_, rfl, _, rfl, _, rfl, .ref pb, _, rfl, .inl ⟨_, SqL.of eb4, rfl⟩, _, _, rfl, rfl, _, rfl, _, rfl, _, rfl, pl, _, rfl, SqL.of el4, fun p2 hp2 => ?_⟩
    rw [show (X' ++ (B' ++ a :: Y')).map num = X'.map num ++ (B'.map num ++ (a :: Y').map num) from by rw [← List.map_append, ← List.map_append]]
    rw [cut_mid (by rw [List.length_map, List.length_map]; omega) (by rw [List.length_map, List.length_map])]
    have s5 := same_new (o := .lst (B'.map num)) hp2
    have e5 : (upd H4 p2 (.lst (B'.map num))) p2 = some (.lst (B'.map num)) := upd_same
    generalize upd H4 p2 (.lst (B'.map num)) = H5 at *
    refine ⟨p2, _, rfl, SqL.of (by rw [e5, nums_int]), fun n1 p3 pm1 pw1 hp3 => ?_⟩
    have s6 := same_new (o := .lst (n1.map V.int)) hp3
    have e6 : (upd H5 p3 (.lst (n1.map V.int))) p3 = some (.lst (n1.map V.int)) := upd_same
    generalize upd H5 p3 (.lst (n1.map V.int)) = H6 at *
    have eb6 := s6 _ _ (s5 _ _ eb4)
    refine ⟨_, rfl, pb, _, rfl, SqL.of (by rw [eb6, nums_int]), fun n2 p4 pm2 pw2 hp4 => ?_⟩
    have s7 := same_new (o := .lst (n2.map V.int)) hp4
    have e7 : (upd H6 p4 (.lst (n2.map V.int))) p4 = some (.lst (n2.map V.int)) := upd_same
    generalize upd H6 p4 (.lst (n2.map V.int)) = H7 at *
    have e12 := sorted_same pm1 pw1 pm2 pw2 cP
    subst e12
    refine ⟨.list (n1.map PyData.int), .list (n1.map PyData.int), .lst (SqL.of (s7 _ _ e6)) (intsD _), .lst (SqL.of e7) (intsD _), sh_ints _, sh_ints _, ?_⟩
    rw [PySem.SeqAt.eqv_refl _ (can_ints _)]
    exact q _ ((((s13.trans s4).trans s5).trans s6).trans s7)
end
end K18
set_option maxHeartbeats 1000000
namespace K18
open PySem PySem.Spec PyProof.Rows L2 Gd Gx
open C8 (clsBody Met pe_mt pe_mt0)
theorem inV_nums (a : Nat) : ∀ xs : List Nat, inV (num a) (xs.map num) = decide (a ∈ xs)
  | [] => by simp [inV]
  | x :: xs => by
    have h := inV_nums a xs
    unfold inV at h ⊢
    rw [List.map_cons, List.any_cons, h]
    by_cases e : x = a
    · subst e
      simp [eqV, num]
    · have e2 : ¬ (a = x) := fun z => e z.symm
      have e3 : ¬ ((x : Int) = (a : Int)) := by omega
      simp [eqV, num, e2, e3]
/-- the pair of whole numbers that a thing is -/
def kOf (H : Hp) (v : V) : Int × Int := match v with
  | .ref t => match H t with
    | some (.tup [.int a, .int b]) => (a, b)
    | _ => (0, 0)
  | _ => (0, 0)
theorem kOf_at {H : Hp} {t : Addr} {a b : Int} (h : H t = some (.tup [.int a, .int b])) : kOf H (.ref t) = (a, b) := by
  unfold kOf
  simp only [h]
def dpt (ow : List Nat) (m : Nat) : Nat := (Lf.line ow m).length - 1
/-- a list of pairs of depths and makes -/
structure PrD (H : Hp) (ow : List Nat) (ys : List V) (xs : List Nat) : Prop where
  len : ys.length = xs.length
  at_ : ∀ (j m : Nat), xs[j]? = some m → ∃ p, ys[j]? = some (.ref p) ∧ H p = some (.tup [num (dpt ow m), num m])
theorem PrD.snoc {H : Hp} {ow : List Nat} {ys : List V} {xs : List Nat} (h : PrD H ow ys xs) {m : Nat} {p : Addr} (e : H p = some (.tup [num (dpt ow m), num m])) : PrD H ow (ys ++ [.ref p]) (xs ++ [m]) := by
  refine ⟨by rw [List.length_append, List.length_append, h.len]; rfl, fun j k hk => ?_⟩
  by_cases hj : j < xs.length
  · rw [List.getElem?_append_left hj] at hk
    obtain ⟨p', e1, e2⟩ := h.at_ j k hk
    exact ⟨p', by rw [List.getElem?_append_left (by rw [h.len]; exact hj)]; exact e1, e2⟩
  · rw [List.getElem?_append_right (by omega)] at hk
    have h0 : j - xs.length = 0 := by
      by_cases z : j - xs.length = 0
      · exact z
      · rw [List.getElem?_eq_none (by show 1 ≤ _; omega)] at hk
        cases hk
    rw [h0] at hk
    cases (show some m = some k from hk)
    exact ⟨p, by rw [List.getElem?_append_right (by rw [h.len]; omega), h.len, h0]; rfl, e⟩
theorem PrD.kp {H H' : Hp} {ow : List Nat} {ys : List V} {xs : List Nat} (h : PrD H ow ys xs) (k : KT H H') : PrD H' ow ys xs := ⟨h.len, fun j m hj => by
  obtain ⟨p, e1, e2⟩ := h.at_ j m hj
  exact ⟨p, e1, k _ _ e2⟩⟩
theorem take_snoc {xs : List Nat} {k b : Nat} (h : xs[k]? = some b) : xs.take (k + 1) = xs.take k ++ [b] := by
  rw [List.take_add_one, h]
  rfl
section
variable {P : Program} {w : World} {K : PySem.W.Frag} {mg : Str → Option Value} {base : Heap} {CT CO CL : Addr}
def spPair (CT CO CL : Addr) : Sp := fun vs H Q _ => ∃ (N : Addr → Prop) (t u : Addr) (n : Nat) (ms ls : List Nat) (ts a b : Nat) (ow : List Nat), vs = [.ref t, .ref u, num a, num b] ∧ TouA N H t CT CO n ms ls ts ∧ Lf.Tr H u CL ow (Lf.depths ow) ∧ Fits ms ow n ∧ a < n ∧ b < n ∧ n ≤ 64 ∧ ∀ H', Same H H' → Q (.bl true) H'
theorem ok_pair (T : Txt K mg) (OC : OrdC K CO) (m_within : Met P w K mg base 6 CT "within" (spWithin CT CO) []) (m_line : Met P w K mg base 3 CL "line" (Lf.spLine CL) []) (m_coming : Met P w K mg base 3 CT "coming" (spCom 0 CT CO) []) (m_depth : Met P w K mg base 3 CL "depth" (Lf.spDepth CL) []) (m_nearest : Met P w K mg base 3 CL "nearest" (Lf.spNear CL) []) (m_marks_of : Met P w K mg base 3 CT "marks_of" (spMOf CT CO) []) (m_order : Met P w K mg base 4 CT "order" (spTOrder CT CO) []) (m_ahead : Met P w K mg base 4 CO "ahead" (spAhead CO) []) (D : DefAt K mg "_law_pair_right" s__law_pair_right ["_law_tour", "_law_tree", "_law_one", "_law_other"]) : CalG P w K mg base 7 "_law_pair_right" (spPair CT CO CL) := by
  refine D.cal sc__law_pair_right (fun vs H Q E h => ?_) (fun ff cdv A outer s H vs Q E hG hr h => ?_)
  · obtain ⟨N, t, u, n, ms, ls, ts, a, b, ow, rfl, _⟩ := h
    rfl
  · obtain ⟨N, t, u, n, ms, ls, ts, a, b, ow, rfl, x, tr, f, ha, hb, hn, q⟩ := h
    have cn := f.cnt
    have low := f.low
    obtain ⟨dx, fs, e1, nl⟩ := x.ins
    obtain ⟨du, o, d, nn, fu, u1, u2, u3, u4, unl, u5, u6, ulf⟩ := tr.ex
    have bl := f.len_com 0
    refine ⟨_, (pss_cons (ps_if (pt_cmpR op_ne (pe_mt m_within hr (by decide) (pv 0) (pa_cons (pv 2) (pa_cons (pv 3) pa_nil))) (pe_cmpR op_in_seq (pv 2) (pe_mt m_line hr (by decide) (pv 1) (pa_cons (pv 3) pa_nil)) (by rfl)) (nomark _))
          (pss_one (ps_ret pe_bl)) pss_nil)
      (pss_cons (ps_setLc (i := 4) (own := [("_law_make", 12)]) (g := gName 12) (tt := _) rfl sc__law_pair_right.nd rfl rfl (sw_true rfl rfl rfl (by decide +kernel)) (pi_list (pe_mt0 m_coming hr (by decide) (pv 0))) (blkOk_by (own := [("_law_make", 12)]) (N := ["_law_tour", "_law_tree", "_law_one", "_law_other", "_law_both", "_law_deepest", "_law_comes", "_law_leaves", "_law_begins", "_law_ends", "_law_order", "_law_apart", "_law_make"]) (sc := defScope s__law_pair_right) (by decide +kernel)) (fun _ _ _ _ _ => pg_name (i := 12) sc__law_pair_right.nd rfl (Or.inl rfl)) (fun _ _ _ _ _ => (pts_one (PW.pt (pw_and (pt_val (pe_mt m_within hr (by decide) (pv 0) (pa_cons (pv 12) (pa_cons (pv 2) pa_nil)))) (pw_and1 (pt_val (pe_mt m_within hr (by decide) (pv 0) (pa_cons (pv 12) (pa_cons (pv 3) pa_nil))))))))) (fun _ _ _ _ _ => (pv 12)))
      (pss_cons (ps_set (i := 5) sc__law_pair_right.nd rfl (Or.inl rfl) (pe_ix ix_tup (pe_callB (Gm.cr_maxP rfl (hu64 hr)) (by rfl) T.b_max boot_max_ (pa_cons (pe_lc (own := [("_law_make", 12)]) (g := gName 12) (tt := tYes) rfl sc__law_pair_right.nd (pi_list (pv 4)) (blkOk_by (own := [("_law_make", 12)]) (N := ["_law_tour", "_law_tree", "_law_one", "_law_other", "_law_both", "_law_deepest", "_law_comes", "_law_leaves", "_law_begins", "_law_ends", "_law_order", "_law_apart", "_law_make"]) (sc := defScope s__law_pair_right) (by decide +kernel)) (fun _ _ _ _ _ => pg_name (i := 12) sc__law_pair_right.nd rfl (Or.inl rfl)) (fun _ _ _ _ _ => pts_nil) (fun _ _ _ _ _ => (pe_tup (pa_cons (pe_mt m_depth hr (by decide) (pv 1) (pa_cons (pv 12) pa_nil)) (pa_cons (pv 12) pa_nil))))) pa_nil)) pe_int (fun _ _ => rfl)))
      (pss_cons (ps_if (PW.pt (pw_or (pt_cmpR op_ne (pv 5) (pe_mt m_nearest hr (by decide) (pv 1) (pa_cons (pv 2) (pa_cons (pv 3) pa_nil))) (nomark _)) (pw_or1 (pt_cmpR (op_neD (hu64 hr)) (pe_callB cr_sortedI (by rfl) T.b_sorted boot_sorted_ (pa_cons (pv 4) pa_nil)) (pe_callB cr_sortedI (by rfl) T.b_sorted boot_sorted_ (pa_cons (pe_mt m_line hr (by decide) (pv 1) (pa_cons (pv 5) pa_nil)) pa_nil)) (nomark _)))))
          (pss_one (ps_ret pe_bl)) pss_nil)
      (pss_cons (ps_asg (pe_mt m_marks_of hr (by decide) (pv 0) (pa_cons (pv 2) pa_nil)) (pg_tup (by rfl) (pgs_cons (pg_name (i := 6) sc__law_pair_right.nd rfl (Or.inl rfl)) (pgs_cons (pg_name (i := 7) sc__law_pair_right.nd rfl (Or.inl rfl)) pgs_nil))))
      (pss_cons (ps_asg (pe_mt m_marks_of hr (by decide) (pv 0) (pa_cons (pv 3) pa_nil)) (pg_tup (by rfl) (pgs_cons (pg_name (i := 8) sc__law_pair_right.nd rfl (Or.inl rfl)) (pgs_cons (pg_name (i := 9) sc__law_pair_right.nd rfl (Or.inl rfl)) pgs_nil))))
      (pss_cons (ps_set (i := 10) sc__law_pair_right.nd rfl (Or.inl rfl) (pe_mt0 m_order hr (by decide) (pv 0)))
      (pss_cons (ps_set (i := 11) sc__law_pair_right.nd rfl (Or.inl rfl) (L2.pe_or (pe_mt m_ahead hr (by decide) (pv 10) (pa_cons (pv 7) (pa_cons (pv 8) pa_nil))) (pe_one (pe_mt m_ahead hr (by decide) (pv 10) (pa_cons (pv 9) (pa_cons (pv 6) pa_nil))))))
      (pss_one (ps_ret (pe_cmpR op_eq (pv 11) (pe_and (pe_cmpR op_ne (pv 5) (pv 2) (nomark _)) (pe_one (pe_cmpR op_ne (pv 5) (pv 3) (nomark _)))) (nomark _)))))))))))), ?_⟩
    refine ⟨_, rfl, t, dx, fs, rfl, e1, nl _ (by decide), _, rfl, _, rfl, N, t, n, ms, ls, ts, a, b, rfl, x, ha, hb, ?_⟩
    rw [f.within ha hb]
    refine ⟨_, rfl, _, rfl, u, du, fu, rfl, u1, unl _ (by decide), _, rfl, u, ow, _, b, rfl, tr, by omega, fun p1 H1 n1 s1 ep1 => ⟨p1, _, rfl, .inl (SqL.of ep1), rfl, flat_nums _, rfl, _, rfl, ?_⟩⟩
    refine ite2 (fun hc => absurd hc (by simp [inV_nums])) (fun _ => ?_)
    have x1 := x.same s1
    have tr1 := tr.same s1
    obtain ⟨dx1, fs1, e11, nl1⟩ := x1.ins
    refine ⟨_, rfl, t, dx1, fs1, rfl, e11, nl1 _ (by decide), N, t, n, ms, ls, ts, rfl, x1, hn, fun pc H2 nc s2 ec => ⟨pc, rfl, ⟨_, SqL.of ec⟩, fun L hL => ?_⟩⟩
    refine lc_it (walk_list (xs := (byL 0 ms).map num)) (fun k H' => Same H2 H' ∧ H' L = some (.lst ((((byL 0 ms).take k).filter (fun m => decide (m ∈ Lf.line ow a) && decide (m ∈ Lf.line ow b))).map num))) ⟨same_new hL, upd_same⟩ (fun k H' _ hP => SqL.of (hP.1 _ _ ec)) (fun k v H3 H4 hk hP hY => ?_) (fun H3 hP => ?_)
    · obtain ⟨s3, d3⟩ := hP
      obtain ⟨rfl, hx⟩ := hY
      rw [List.length_map] at hk
      obtain ⟨m, hm⟩ : ∃ m, (byL 0 ms)[k]? = some m := ⟨_, List.getElem?_eq_getElem hk⟩
      rw [List.getElem?_map, hm] at hx
      cases (show some (num m) = some v from hx)
      have hmn : m < n := f.mem_com.mp (List.mem_of_getElem? hm)
      have x3 := x1.same (s2.trans s3)
      have e13 := s3 _ _ (s2 _ _ e11)
      have put : ∀ Nx : Hp → Prop, True := fun _ => trivial
      refine ⟨rfl, ?_⟩
      refine ⟨_, rfl, t, dx1, fs1, rfl, e13, nl1 _ (by decide), _, rfl, _, rfl, N, t, n, ms, ls, ts, m, a, rfl, x3, hmn, ha, _, rfl, ?_⟩
      rw [f.within hmn ha]
      have bl1 := byL_len 0 ms
      have few := f.len
      have lt1 : (((byL 0 ms).take k).filter (fun m => decide (m ∈ Lf.line ow a) && decide (m ∈ Lf.line ow b))).length ≤ 128 := by
        have h1 := List.length_filter_le (fun m => decide (m ∈ Lf.line ow a) && decide (m ∈ Lf.line ow b)) ((byL 0 ms).take k)
        rw [List.length_take] at h1
        omega
      have skip : (decide (m ∈ Lf.line ow a) && decide (m ∈ Lf.line ow b)) = false → Same H2 H4 ∧ H4 L = some (.lst ((((byL 0 ms).take (k + 1)).filter (fun m => decide (m ∈ Lf.line ow a) && decide (m ∈ Lf.line ow b))).map num)) := fun hf => by
        refine ⟨s3, ?_⟩
        rw [d3, take_snoc hm, List.filter_append, List.filter_cons_of_neg (by rw [hf]; decide), List.filter_nil, List.append_nil]
      refine ite2 (fun hc => ?_) (fun hc => ?_)
      · refine ⟨_, rfl, t, dx1, fs1, rfl, e13, nl1 _ (by decide), _, rfl, _, rfl, N, t, n, ms, ls, ts, m, b, rfl, x3, hmn, hb, _, rfl, ?_⟩
        rw [f.within hmn hb]
        refine ite2 (fun hd => ?_) (fun hd => ?_)
        · refine ⟨_, rfl, _, d3, ?_, fun c u z => ?_, ?_⟩
          · rw [List.length_map]
            exact small1000 (by omega)
          · rw [upd_ne (ne_of_none z hL)]
            exact s3 _ _ z
          · rw [upd_same, take_snoc hm, List.filter_append, List.filter_cons_of_pos (by rw [hc, hd]; rfl), List.filter_nil, List.map_append]
            rfl
        · exact skip (by rw [Bool.eq_false_iff.mpr hd, Bool.and_false])
      · exact iteF (skip (by rw [Bool.eq_false_iff.mpr hc, Bool.false_and]))
    · obtain ⟨s3, d3⟩ := hP
      rw [List.length_map, List.take_length] at d3
      obtain ⟨both, hboth⟩ : ∃ both, both = (byL 0 ms).filter (fun m => decide (m ∈ Lf.line ow a) && decide (m ∈ Lf.line ow b)) := ⟨_, rfl⟩
      rw [← hboth] at d3
      obtain ⟨z, hz⟩ : ∃ z, z = Lf.nearL (Lf.line ow a) (Lf.line ow b) := ⟨_, rfl⟩
      have zn : z < n := by
        have := Lf.near_le low a b
        omega
      have memB : ∀ y, y ∈ both ↔ y ∈ Lf.line ow z := fun y => by
        rw [hboth, List.mem_filter, Bool.and_eq_true, decide_eq_true_eq, decide_eq_true_eq, near_iff low, ← hz]
        refine ⟨fun h => h.2, fun h => ⟨f.mem_com.mpr ?_, h⟩⟩
        have := Lf.line_le low _ _ h
        omega
      have ndB : both.Nodup := by
        rw [hboth]
        exact List.Pairwise.filter _ (f.nd_com 0)
      have lenB : both.length ≤ 128 := by
        rw [hboth]
        have := List.length_filter_le (fun m => decide (m ∈ Lf.line ow a) && decide (m ∈ Lf.line ow b)) (byL 0 ms)
        omega
      have zB : z ∈ both := (memB z).mpr (in_self low z)
      clear hboth
      refine ⟨_, rfl, L, rfl, ⟨_, SqL.of d3⟩, fun L2 hL2 => ?_⟩
      refine lc_it (walk_list (xs := both.map num)) (fun k H' => Same H3 H' ∧ ∃ ys, H' L2 = some (.lst ys) ∧ PrD H' ow ys (both.take k)) ⟨same_new hL2, [], upd_same, rfl, fun j m h => by cases h⟩ (fun k H' _ hP => SqL.of (hP.1 _ _ d3)) (fun k v H4 H5 hk hP hY => ?_) (fun H4 hP => ?_)
      · obtain ⟨s4, ys, d4, pr⟩ := hP
        obtain ⟨rfl, hx⟩ := hY
        rw [List.length_map] at hk
        obtain ⟨m, hm⟩ : ∃ m, both[k]? = some m := ⟨_, List.getElem?_eq_getElem hk⟩
        rw [List.getElem?_map, hm] at hx
        cases (show some (num m) = some v from hx)
        have mz := (memB m).mp (List.mem_of_getElem? hm)
        have := Lf.line_le low _ _ mz
        have tr5 := tr1.same ((s2.trans s3).trans s4)
        refine ⟨rfl, yesI ?_⟩
        refine ⟨_, rfl, u, du, fu, rfl, s4 _ _ (s3 _ _ (s2 _ _ (s1 _ _ u1))), unl _ (by decide), _, rfl, u, ow, _, m, rfl, tr5, by omega, _, rfl, (by show 2 ≤ sizeLine; decide), fun tp htp => ?_⟩
        have s5 := same_new (o := .tup [num ((Lf.line ow m).length - 1), num m]) htp
        have e5 : (upd H5 tp (.tup [num ((Lf.line ow m).length - 1), num m])) tp = some (.tup [num (dpt ow m), num m]) := upd_same
        generalize upd H5 tp (.tup [num ((Lf.line ow m).length - 1), num m]) = H6 at *
        have ly := pr.len
        rw [List.length_take] at ly
        have d6 := s5 _ _ d4
        refine ⟨ys, d6, small1000 (by omega), fun c u' z' => ?_, _, upd_same, ?_⟩
        · rw [upd_ne (ne_of_none z' hL2)]
          exact s5 _ _ (s4 _ _ z')
        · rw [take_snoc hm]
          refine ((pr.kp (KT.of s5)).snoc e5).kp fun c w' z' => ?_
          rw [upd_ne (fun e => by rw [e, d6] at z'; cases z')]
          exact z'
      · obtain ⟨s4, ys, d4, pr⟩ := hP
        rw [List.length_map, List.take_length] at pr
        obtain ⟨jz, hjz⟩ := List.getElem?_of_mem zB
        obtain ⟨pz, hpz, epz⟩ := pr.at_ jz z hjz
        have each : ∀ y, y ∈ ys → ∃ p m, y = .ref p ∧ H4 p = some (.tup [num (dpt ow m), num m]) ∧ m ∈ both := fun y hy => by
          obtain ⟨j, hj, rfl⟩ := List.getElem_of_mem hy
          obtain ⟨m, hm⟩ : ∃ m, both[j]? = some m := ⟨_, List.getElem?_eq_getElem (by rw [← pr.len]; exact hj)⟩
          obtain ⟨p, h1, h2⟩ := pr.at_ j m hm
          rw [List.getElem?_eq_getElem hj] at h1
          exact ⟨p, m, Option.some.inj h1, h2, List.mem_of_getElem? hm⟩
        refine ⟨L2, ys, kOf H4, rfl, SqL.of d4, fun e => ?_, fun y hy => ?_, fun y hy top => ?_⟩
        · rw [e] at hpz
          cases hpz
        · obtain ⟨p, m, rfl, h2, _⟩ := each y hy
          exact ⟨p, rfl, by rw [kOf_at h2]; exact h2⟩
        obtain ⟨p, m, rfl, hpm, mB⟩ := each y hy
        have lex := SrtO.lexB_no.mp (top _ (List.mem_of_getElem? hpz))
        rw [kOf_at hpm, kOf_at epz] at lex
        obtain rfl : m = z := by
          refine deep_eq low ((memB m).mp mB) ?_
          have h1 : ¬ (((dpt ow m : Nat) : Int) < ((dpt ow z : Nat) : Int)) := fun h => lex (.inl h)
          unfold dpt at h1
          omega
        refine ⟨p, _, _, num m, rfl, rfl, SqT.of hpm, rfl, ?_⟩
        have s14 := ((s1.trans s2).trans s3).trans s4
        have tr4 := tr1.same ((s2.trans s3).trans s4)
        refine ⟨_, rfl, _, rfl, u, du, fu, rfl, s14 _ _ u1, unl _ (by decide), _, rfl, _, rfl, u, ow, _, a, b, rfl, tr4, by omega, by omega, ?_⟩
        rw [← hz]
        refine ⟨rfl, _, rfl, ?_⟩
        refine ite2 (fun hc => absurd hc (by simp)) (fun _ => ?_)
        have d34 := s4 _ _ d3
        refine ⟨_, rfl, L, _, rfl, SqL.of (by rw [d34, nums_int]), fun n1 p3 pm1 pw1 hp3 => ?_⟩
        have s5 := same_new (o := .lst (n1.map V.int)) hp3
        have e5 : (upd H4 p3 (.lst (n1.map V.int))) p3 = some (.lst (n1.map V.int)) := upd_same
        generalize upd H4 p3 (.lst (n1.map V.int)) = H5 at *
        have tr5 := tr4.same s5
        refine ⟨_, rfl, u, du, fu, rfl, s5 _ _ (s14 _ _ u1), unl _ (by decide), _, rfl, u, ow, _, m, rfl, tr5, by omega, fun p4 H6 np4 s6 e6 => ?_⟩
        refine ⟨p4, _, rfl, SqL.of (by rw [e6, nums_int]), fun n2 p5 pm2 pw2 hp5 => ?_⟩
        have s7 := same_new (o := .lst (n2.map V.int)) hp5
        have e7 : (upd H6 p5 (.lst (n2.map V.int))) p5 = some (.lst (n2.map V.int)) := upd_same
        generalize upd H6 p5 (.lst (n2.map V.int)) = H7 at *
        have e12 := sorted_same pm1 pw1 pm2 pw2 (perm_of_mem ndB (line_nd low m) memB)
        subst e12
        refine ⟨.list (n1.map PyData.int), .list (n1.map PyData.int), .lst (SqL.of (s7 _ _ (s6 _ _ e5))) (intsD _), .lst (SqL.of e7) (intsD _), sh_ints _, sh_ints _, _, rfl, ?_⟩
        rw [PySem.SeqAt.eqv_refl _ (can_ints _)]
        refine iteF ?_
        have s17 := ((s14.trans s5).trans s6).trans s7
        clear pm1 pm2 pw1 pw2 e7 e6 e5 np4 hp3 hp5 tr5 tr4 each top lex hpm hpz epz hjz pr d4 d34 d3 zB memB ndB
        have x7 := x.same s17
        have e17 := s17 _ _ e1
        refine ⟨_, rfl, t, dx, fs, rfl, e17, nl _ (by decide), _, rfl, N, t, n, ms, ls, ts, a, rfl, x7, ha, fun pa ea => ?_⟩
        refine ⟨pa, _, rfl, SqT.of ea, rfl, _, _, rfl, _, _, rfl, rfl, ?_⟩
        refine ⟨_, rfl, t, dx, fs, rfl, e17, nl _ (by decide), _, rfl, N, t, n, ms, ls, ts, b, rfl, x7, hb, fun pb eb => ?_⟩
        refine ⟨pb, _, rfl, SqT.of eb, rfl, _, _, rfl, _, _, rfl, rfl, ?_⟩
        refine ⟨_, rfl, t, dx, fs, rfl, e17, nl _ (by decide), N, t, n, ms, ls, ts, rfl, x7, fun v H8 N8 nv oa f8 s8 => ?_⟩
        obtain ⟨dv, fv, ev, vl⟩ := oa.ins
        have ap := f.apart ha hb
        rw [← hz] at ap
        have QQ := q H8 (s17.trans s8)
        refine ⟨_, rfl, v, dv, fv, rfl, ev, vl _ (by decide), _, rfl, _, rfl, N8, v, ms, ls, _, _, _, _, _, _, rfl, oa, f.at_ (k := 2 * a + 1) (by omega), f.at_ (k := 2 * b) (by omega), _, rfl, ?_⟩
        have ne_ : ∀ y : Nat, (!decide (num m = num y)) = decide (m ≠ y) := fun y => by
          by_cases e : m = y
          · subst e
            simp
          · have e2 : ¬ num m = num y := fun h => e (num_inj h)
            simp [e, e2]
        refine ite2 (fun hc => ?_) (fun hc => ?_)
        · have h1 := ap.mp (.inl (of_decide_eq_true hc))
          refine ⟨_, rfl, _, rfl, _, rfl, rfl, _, rfl, ?_⟩
          rw [ne_, decide_eq_true h1.1]
          refine iteT ⟨_, rfl, _, rfl, rfl, rfl, ?_⟩
          rw [ne_, decide_eq_true h1.2]
          exact QQ
        · refine ⟨_, rfl, v, dv, fv, rfl, ev, vl _ (by decide), _, rfl, _, rfl, N8, v, ms, ls, _, _, _, _, _, _, rfl, oa, f.at_ (k := 2 * b + 1) (by omega), f.at_ (k := 2 * a) (by omega), ?_⟩
          have hc' : ¬ ms.idxOf (2 * a + 1) < ms.idxOf (2 * b) := fun h => hc (decide_eq_true h)
          by_cases h2 : ms.idxOf (2 * b + 1) < ms.idxOf (2 * a)
          · have h1 := ap.mp (.inr h2)
            rw [decide_eq_true h2]
            refine ⟨_, rfl, _, rfl, _, rfl, rfl, _, rfl, ?_⟩
            rw [ne_, decide_eq_true h1.1]
            refine iteT ⟨_, rfl, _, rfl, rfl, rfl, ?_⟩
            rw [ne_, decide_eq_true h1.2]
            exact QQ
          · have h1 : ¬ (m ≠ a ∧ m ≠ b) := fun h => (ap.mpr h).elim hc' h2
            rw [decide_eq_false h2]
            refine ⟨_, rfl, _, rfl, _, rfl, rfl, _, rfl, ?_⟩
            rw [ne_]
            by_cases e : m = a
            · rw [decide_eq_false (by simp [e])]
              refine iteF ⟨rfl, ?_⟩
              exact QQ
            · have e2 : ¬ m ≠ b := fun h => h1 ⟨e, h⟩
              rw [decide_eq_true e]
              refine iteT ⟨_, rfl, _, rfl, rfl, rfl, ?_⟩
              rw [ne_, decide_eq_false e2]
              exact QQ
end
end K18
set_option maxHeartbeats 1000000
/-! isinstance of the exception that the suite holds, asked with a tuple of classes. -/
namespace Ge
open PySem PySem.Spec PyProof.Rows L2 Gd
def rIsFT (K : PySem.W.Frag) (C a : Addr) (cls : Value) (d : Option Addr) : List V → Hp → VK → Prop := fun xs H Q => ∃ (tp : Addr) (cs : List V) (ws : List Value) (b : Bool) (dd : Addr) (v : V), xs = [.ref a, .ref tp] ∧ cls = .ref C ∧ d = some dd ∧
  H dd = some (.xd [(("found" : Str), v)]) ∧ H tp = some (.tup cs) ∧ Paired ClsV cs ws ∧ PySem.W.kitAny K (.ref C) ws = some b ∧ Q (.bl b) H
section
variable {X : Cx} {C fI : Addr} {qn msg : Str}
theorem call_isFT {a : Addr} {oe : Obj} {cls : Value} {d : Option Addr} {pn : List (Addr × Obj)} (T : ErrTxt X.prog X.K C fI qn msg) (S : IsTxt X.K C) (hz : Zc cls d oe) (hf : ∃ vs, oe.data = .fields vs) :
    CallR (X.suite a ((a, oe) :: pn)) (.builtin "isinstance") (rIsFT X.K C a cls d) := by
  intro pins s σ H xs us Q I r h
  obtain ⟨tp, cs, ws, b, dd, v, rfl, rfl, rfl, ea, hT, k, e, q⟩ := h
  obtain ⟨u1, u2, rfl, r1, r2⟩ := vals2 r
  cases (show u1 = Value.ref a from r1)
  cases (show u2 = Value.ref tp from r2)
  have ha := (I.pin (a, oe) (List.mem_append_left _ List.mem_cons_self)).1
  obtain ⟨vs, hd⟩ := hf
  have hx : ObjOk X.prog X.w H s.heap dd (.xd [(("found" : Str), v)]) := I.hok dd _ ea
  obtain ⟨mA, hns, _⟩ := hx
  obtain ⟨od, ho, _⟩ := lookIn_ns hns
  have J : PySem.W.InstAt s.heap a oe C (some od) := by
    refine ⟨ha, hz.1, ?_, by rw [hz.2]; exact ho⟩
    unfold PySem.W.notCls
    rw [hd]
    all_goals rfl
  have hcl : (PySem.W.clsIn X.K C).isSome = true := by
    obtain ⟨cd, hc, _⟩ := PySem.W.any_some T.hdC
    rw [hc]
    rfl
  obtain ⟨_, its, rv, o, h1, h2, n, h3⟩ := (show ObjOk X.prog X.w H s.heap tp (.tup cs) from I.hok tp _ hT)
  have e3 := ClsV.all k rv
  subst e3
  obtain ⟨oc, od2, dt, sl⟩ := o
  simp only at h2 h3
  subst h2 h3
  exact PySem.W.kia_tup (PySem.W.kitx_exc hcl T.ga T.gg T.exC S.ha S.hn S.ht S.hm) I.kIn J h1 e (fun z => nomatch z) fun tk => ⟨.bl b, H, I.kept (t' := tk) fun _ _ z => z, rfl, q⟩
end
end Ge
namespace Gc
open PySem PySem.Spec PyProof.Rows L2 Gd
def rIsFT (K : PySem.W.Frag) (C a : Addr) (cls : Value) (d : Option Addr) : List V → Hp → VK → Prop := fun xs H Q => ∃ (tp : Addr) (cs : List V) (ws : List Value) (b : Bool) (dd : Addr) (v : V), xs = [.ref a, .ref tp] ∧ cls = .ref C ∧ d = some dd ∧
  H dd = some (.xd [(("count" : Str), v)]) ∧ H tp = some (.tup cs) ∧ Paired ClsV cs ws ∧ PySem.W.kitAny K (.ref C) ws = some b ∧ Q (.bl b) H
section
variable {X : Cx} {C fI : Addr} {qn msg : Str}
theorem call_isFT {a : Addr} {oe : Obj} {cls : Value} {d : Option Addr} {pn : List (Addr × Obj)} (T : ErrTxt X.prog X.K C fI qn msg) (S : IsTxt X.K C) (hz : Zc cls d oe) (hf : ∃ vs, oe.data = .fields vs) :
    CallR (X.suite a ((a, oe) :: pn)) (.builtin "isinstance") (rIsFT X.K C a cls d) := by
  intro pins s σ H xs us Q I r h
  obtain ⟨tp, cs, ws, b, dd, v, rfl, rfl, rfl, ea, hT, k, e, q⟩ := h
  obtain ⟨u1, u2, rfl, r1, r2⟩ := vals2 r
  cases (show u1 = Value.ref a from r1)
  cases (show u2 = Value.ref tp from r2)
  have ha := (I.pin (a, oe) (List.mem_append_left _ List.mem_cons_self)).1
  obtain ⟨vs, hd⟩ := hf
  have hx : ObjOk X.prog X.w H s.heap dd (.xd [(("count" : Str), v)]) := I.hok dd _ ea
  obtain ⟨mA, hns, _⟩ := hx
  obtain ⟨od, ho, _⟩ := lookIn_ns hns
  have J : PySem.W.InstAt s.heap a oe C (some od) := by
    refine ⟨ha, hz.1, ?_, by rw [hz.2]; exact ho⟩
    unfold PySem.W.notCls
    rw [hd]
    all_goals rfl
  have hcl : (PySem.W.clsIn X.K C).isSome = true := by
    obtain ⟨cd, hc, _⟩ := PySem.W.any_some T.hdC
    rw [hc]
    rfl
  obtain ⟨_, its, rv, o, h1, h2, n, h3⟩ := (show ObjOk X.prog X.w H s.heap tp (.tup cs) from I.hok tp _ hT)
  have e3 := ClsV.all k rv
  subst e3
  obtain ⟨oc, od2, dt, sl⟩ := o
  simp only at h2 h3
  subst h2 h3
  exact PySem.W.kia_tup (PySem.W.kitx_exc hcl T.ga T.gg T.exC S.ha S.hn S.ht S.hm) I.kIn J h1 e (fun z => nomatch z) fun tk => ⟨.bl b, H, I.kept (t' := tk) fun _ _ z => z, rfl, q⟩
end
end Gc
/-! Several except clauses, each with a name of its own or none. -/
namespace Gt
open PySem PySem.Spec PyProof.Rows L2
/-- an exception that came down to the clauses -/
structure Caught (X : Cx) (pins : List (Addr × Obj)) (σ : L2.St) (H : Hp) (a : Addr) (cls : Value) (d : Option Addr) (B : Heap) (s : Shared) : Prop where
  fly : HandSPX.FlyingZ B (X.env :: X.outer) a (Zc cls d) s.heap
  inv : Inv X pins σ H s
  na : H a = none
  low : a ≠ X.env.locals
  free : a ∉ X.fs
  again : ∀ h', HandSPX.FlyingZ B (X.env :: X.outer) a (Zc cls d) h' → s.heap.UpToSlots h' → Inv X pins σ H { s with heap := h' }
  off : ∀ (h' : Heap) (W : WX), HandSPX.HeldZ B (X.env :: X.outer) a (Zc cls d) X.env.locals h' → s.heap.UpToSlots h' → W cls d σ H → XE X W (.ref a) { s with heap := h' }
theorem not_frame {X : Cx} {B : Heap} {a : Addr} {cls : Value} {d : Option Addr} {h : Heap} (fl : HandSPX.FlyingZ B (X.env :: X.outer) a (Zc cls d) h) : a ∉ frs (X.env :: X.outer) := fun hm => by
  have ff := fl.2.2.1
  obtain ⟨oe, vs, e1, _, e2⟩ := fl.there
  obtain ⟨_, o2, e3, no⟩ := ff.mem hm
  cases e1.symm.trans e3
  exact no _ e2
theorem air {X : Cx} {pins : List (Addr × Obj)} {W : WX} {xe : Value → Shared → Prop} {u : Value} {s' : Shared} {R : Shared → Prop} (ok : X.Ok) (hs : X.stack = X.env :: X.outer) (hf : X.env.frame = some X.env.locals)
    (xx : XE (X.tr (X.pn ++ pins) xe) W u s') (k : ∀ (a : Addr) (cls : Value) (d : Option Addr) (σ : L2.St) (H : Hp) (B : Heap) (s3 : Shared), u = .ref a → Caught X pins σ H a cls d B s3 → W cls d σ H → R s3) :
    wpAny (model X.prog X.w) X.A (noteFrame u X.env) (fun _ s2 => wpAny (model X.prog X.w) X.A (setFlight u none) (fun _ s3 => R s3) X.xe s2) X.xe s' := by
  obtain ⟨a, B, sI, p', σ, H, cls, d, rfl, J, nb, up, sky, na, os, ag, wish⟩ := xx
  have I0 := J.ofTry ok
  have fr : X.A.frames = some (X.env :: X.outer) := hs ▸ ok.frames
  have y : Sky B (X.env :: X.outer) a (Zc cls d) X.env.locals s'.heap := hs ▸ sky
  refine Sky.land Zc.steady fr hf y fun h3 fl up3 => k a cls d σ H B _ rfl ?_ wish
  have nf := not_frame (X := X) fl
  have up13 := up.trans up3
  refine ⟨fl, I0.landed nb fl.1 up13 os ag, na, fun e => nf ?_, fun hm => ?_, fun h4 f4 up4 => I0.landed nb f4.1 (up13.trans up4) os ag, fun h4 W' hh up4 w' => ?_⟩
  · exact List.mem_filterMap.mpr ⟨X.env, List.mem_cons_self .., e ▸ hf⟩
  · obtain ⟨v, hv, e⟩ := List.mem_filterMap.mp hm
    exact nf (List.mem_filterMap.mpr ⟨v, List.mem_cons_of_mem _ hv, e⟩)
  · exact ⟨a, B, sI, pins, σ, H, cls, d, rfl, I0, nb, up13.trans up4, .inr (.inr (hs ▸ hh)), na, os, ag, w'⟩
/-- what stands of the ends when the name goes -/
def gone : Option Nat → Ends → Ends
  | none, D => D
  | some i, D => ⟨fun σ => D.nx (σ.set i none), D.rt, fun σ => D.bk (σ.set i none), fun σ => D.ct (σ.set i none)⟩
def held : Option Nat → Addr → L2.St → L2.St
  | none, _, σ => σ
  | some i, a, σ => σ.set i (some (.ref a))
abbrev Cl := Value × Option Nat × (Addr → Value → Option Addr → TS)
/-- what the clauses wish -/
def wCl (K : PySem.W.Frag) (Wout : WX) (D : Ends) : List Cl → WX
  | [] => Wout
  | (c, i, t) :: r => fun cls d σ H => ∃ b, PySem.W.exmOne K cls c = some b ∧ (b = true → ∀ a, H a = none → t a cls d (gone i D) (held i a σ) H) ∧ (b = false → wCl K Wout D r cls d σ H)
abbrev SuiteOk (X : Cx) (sts : List Stmt) (t : Addr → Value → Option Addr → TS) : Prop := ∀ (a : Addr) (oe : Obj) (cls : Value) (d : Option Addr) (pn : List (Addr × Obj)), Zc cls d oe → (∃ vs, oe.data = .fields vs) → PSs (X.suite a ((a, oe) :: pn)) sts (t a cls d)
inductive Clauses (X : Cx) : List ExceptHandler → List Cl → Prop
  | nil : Clauses X [] []
  | bare {x : Str} {c : Value} {t : Addr → Value → Option Addr → TS} {b : Stmt} {su : List Stmt} {p q : Pos} {hds : List ExceptHandler} {l : List Cl} (hc : Names X x c) (hsu : SuiteOk X (b :: su) t) (r : Clauses X hds l) :
      Clauses X (.ExceptHandler (some (.Name x p)) none (b :: su) q :: hds) ((c, none, t) :: l)
  | named {x n : Str} {i : Nat} {c : Value} {t : Addr → Value → Option Addr → TS} {b : Stmt} {su : List Stmt} {p q : Pos} {hds : List ExceptHandler} {l : List Cl} (hc : Names X x c) (hi : X.N[i]? = some n) (hl : X.env.kindOf n = some .local) (hsu : SuiteOk X (b :: su) t) (r : Clauses X hds l) :
      Clauses X (.ExceptHandler (some (.Name x p)) (some n) (b :: su) q :: hds) ((c, some i, t) :: l)
section
variable {X : Cx} {pins : List (Addr × Obj)} {σ : L2.St} {H : Hp} {a : Addr} {cls : Value} {d : Option Addr} {B : Heap} {s : Shared}
/-- the class that a clause asks for -/
theorem Caught.asks (k : Caught X pins σ H a cls d B s) {x : Str} {c : Value} {p : Pos} {b : Bool} (hc : Names X x c) (hb : PySem.W.exmOne X.K cls c = some b) {Q : Bool → Shared → Prop} {E1 E2 : Value → Shared → Prop} (q : Q b s) :
    wpAny (model X.prog X.w) (X.A.mark (some (.ref a))) (eval (.Name x p) X.env) (fun v s1 => wpAny (model X.prog X.w) (X.A.mark (some (.ref a))) (excMatches (.ref a) v) Q E1 s1) E2 s := by
  obtain ⟨oe, vs, e1, z1, e2⟩ := k.fly.there
  have S := k.inv.suite e1 e2 k.na k.low k.free
  have lk : PySem.W.Looks (model X.prog X.w) s.heap (typeOf (.ref a)) cls := fun _ _ _ _ g r => wpAny_typeOf_ref (g _ _ e1) (by rw [z1.1]; exact r)
  have m := PySem.W.exm_one (M := model X.prog X.w) k.inv.kIn lk hb
  have go := m.here (A := X.A.mark (some (.ref a))) (E := E1) q
  obtain ⟨g, nd, y | ⟨y, bt, nn⟩⟩ := hc
  · exact ld_glob (X := X.suite a ((a, oe) :: (X.pn ++ pins))) S g y go nd
  · exact ld_blt (X := X.suite a ((a, oe) :: (X.pn ++ pins))) S g y bt go nn nd
theorem Caught.none_left (k : Caught X pins σ H a cls d B s) (hf : X.env.frame = some X.env.locals) {Wout : WX} (tk : Takes X Wout) (w : Wout cls d σ H) {Q : Flow → Shared → Prop} :
    wpAny (model X.prog X.w) X.A (handleBy (.ref a) X.env []) Q X.xe s := by
  refine wpAny_handleBy_nil ?_
  have fl := k.fly
  obtain ⟨_, _, _, oe, vs, T, oT, ts, h1, _, h2, h3, _⟩ := id fl
  unfold PySem.passOn
  refine wpAny_bind (wpAny_field h1 h2 h3 ?_)
  have nn : ¬ ((Value.ref T == Value.none) = true) := by simp
  rw [if_neg nn]
  have fin : wpAny (model X.prog X.w) X.A (setFlight (.ref a) X.env.frame) (fun _ s1 => wpAny (model X.prog X.w) X.A (throw (.ref a) : Sem Flow) Q X.xe s1) X.xe s := by
    rw [hf]
    exact HandSPX.setFlight_upZ fl fun h' hh up' => wpAny_throw (tk _ _ (k.off h' Wout hh up' w))
  first
    | exact wpAny_bind (wpAny_pure <| wpAny_bind fin)
    | exact wpAny_bind fin
/-- down the clauses -/
theorem Caught.down (k : Caught X pins σ H a cls d B s) (hf : X.env.frame = some X.env.locals) (hN : X.N.Nodup) {Wout : WX} (tk : Takes X Wout) {D : Ends} {hds : List ExceptHandler} {l : List Cl} (hc : Clauses X hds l) :
    wCl X.K Wout D l cls d σ H → wpAny (model X.prog X.w) X.A (handleBy (.ref a) X.env hds) (SP X pins D) X.xe s := by
  have ok := k.inv.ok
  induction hc with
  | nil => exact fun w => k.none_left hf tk w
  | @bare x c t b su p q hds l hc hsu r ih =>
    rintro ⟨v, e, yes, no⟩
    refine wpAny_handleBy_cons (codeAny_handlers_test (k.asks hc e ?_)) (fun z => by cases z)
    cases v with
    | false => exact ih (no rfl)
    | true =>
      refine codeAny_handlers_suite (HandSPX.lands_againZ k.fly fun h4 f4 up4 => ?_)
      obtain ⟨oe, vs, e1, z1, e2⟩ := f4.there
      have S := (k.again h4 f4 up4).suite e1 e2 k.na k.low k.free
      refine wpAny_mono ((hsu a oe cls d (X.pn ++ pins) z1 ⟨_, e2⟩).run [] _ _ H _ S (yes rfl a k.na)) (fun f s6 hsp => ?_) (fun _ _ z => z.elim)
      cases f <;> first
        | exact (let ⟨_, _, S6, q6⟩ := hsp; ⟨_, _, S6.unsuite ok, q6⟩)
        | exact (let ⟨_, _, _, S6, r6, q6⟩ := hsp; ⟨_, _, _, S6.unsuite ok, r6, q6⟩)
  | @named x n i c t b su p q hds l hc hi hl hsu r ih =>
    rintro ⟨v, e, yes, no⟩
    refine wpAny_handleBy_cons (codeAny_handlers_test (k.asks hc e ?_)) (fun z => by cases z)
    cases v with
    | false => exact ih (no rfl)
    | true =>
      refine codeAny_handlers_suite_as (HandSPX.lands_againZ k.fly fun h4 f4 up4 => ?_)
      obtain ⟨oe, vs, e1, z1, e2⟩ := f4.there
      have S := (k.again h4 f4 up4).suite e1 e2 k.na k.low k.free
      refine store_ok (X := X.suite a ((a, oe) :: (X.pn ++ pins))) (v := .ref a) S hN hi (.inl hl) rfl (fun s5 S5 => ?_) (.inr hl)
      refine wpAny_mono ((hsu a oe cls d (X.pn ++ pins) z1 ⟨_, e2⟩).run [] s5 _ H _ S5 (yes rfl a k.na)) (fun f s6 hsp => ?_) (fun _ _ z => z.elim)
      cases f <;> first
        | exact (let ⟨_, _, S6, q6⟩ := hsp; gone_ok (S6.unsuite ok) hN hi hl fun s7 J7 => ⟨_, _, J7, q6⟩)
        | exact (let ⟨_, _, _, S6, r6, q6⟩ := hsp; gone_ok (S6.unsuite ok) hN hi hl fun s7 J7 => ⟨_, _, _, J7, r6, q6⟩)
end
section
variable {X : Cx} {body : List Stmt} {h₀ : ExceptHandler} {hds : List ExceptHandler} {l : List Cl} {pos : Pos} {tb : WX → TS} {Wout : WX}
theorem ps_try_cl (hs : X.stack = X.env :: X.outer) (hf : X.env.frame = some X.env.locals) (hN : X.N.Nodup) (tk : Takes X Wout)
    (hb : ∀ (V : WX) (ps : List (Addr × Obj)) (e : Value → Shared → Prop), Takes (X.tr ps e) V → PassesOwn (model X.prog X.w) X.A X.env e → PSs (X.tr ps e) body (tb V))
    (hc : Clauses X (h₀ :: hds) l) : PS X (.Try body (h₀ :: hds) [] [] pos) (fun D σ H => tb (wCl X.K Wout D l) D σ H) := by
  constructor
  intro pins s σ H D I h
  have ok := I.ok
  refine wpAny_Try_except (wpAny_mono ((hb _ _ _ (fun u s' xx => ?_) PassesOwn.looking).run [] s σ H D (I.toTry _) h) (fun f s1 hsp => ?_) (fun _ _ z => z))
  · exact air ok hs hf xx fun a cls d σ H B s3 e k w => by
      subst e
      exact k.down hf hN tk hc w
  · cases f <;> first
      | exact (let ⟨_, _, J, q⟩ := hsp; wpAny_execs_nil ⟨_, _, J.ofTry ok, q⟩)
      | exact (let ⟨_, _, J, q⟩ := hsp; ⟨_, _, J.ofTry ok, q⟩)
      | exact (let ⟨_, _, _, J, r, q⟩ := hsp; ⟨_, _, _, J.ofTry ok, r, q⟩)
end
end Gt
set_option maxHeartbeats 1000000
namespace K18
open PySem PySem.Spec PyProof.Rows L2 Gd Gs Gx Ge
open C8 (clsBody Met pe_mt pe_mt0)
abbrev tsRf (C : Addr) : Addr → Value → Option Addr → TS := fun a cls d => tAsg (tLst (tCons (tFound C a cls d (tVar 3)) tNil)) (gName 2)
section
variable {P : Program} {w : World} {K : PySem.W.Frag} {mg : Str → Option Value} {base : Heap} {CT CO CL CN fN : Addr}
/-- what is no make of a tour, of a tree -/
def NoMk (K : PySem.W.Frag) (CT CO CL : Addr) (H : Hp) (a : Addr) (d : PyData) : Prop :=
  (∃ (N : Addr → Prop) (n : Nat) (ms ls : List Nat) (ts : Nat), TouA N H a CT CO n ms ls ts ∧ Lf.wholeD d 0 ((n : Int) - 1) = false) ∨ (∃ ow ds : List Nat, Lf.Tr H a CL ow ds ∧ Lf.wholeD d 0 (ow.length : Nat) = false)
def spRef (K : PySem.W.Frag) (CT CO CL : Addr) : Sp := fun vs H Q _ => ∃ (a : Addr) (v : V) (d : PyData), vs = [.ref a, v] ∧ D1 K H v d ∧ NoMk K CT CO CL H a d ∧ ∀ (p : Addr) (H' : Hp), H p = none → Same H H' → H' p = some (.lst [v]) → Q (.ref p) H'
theorem ok_ref (T : Txt K mg) (OC : TouC K CT) (TC : Lf.TreeC K CL) (RK : Lf.ErrK P K mg CN fN) (kk : PySem.W.exmOne K (.ref CN) (.ref CN) = some true) (x_tgrow : MetX P w K mg base 4 CT "grow" (spTBad K CN CT CO)) (x_lgrow : MetX P w K mg base 4 CL "grow" (Lf.spB1 K CN CL))
    (D : DefAt K mg "_law_refused" s__law_refused ["_law_thing", "_law_make"]) : CalG P w K mg base 5 "_law_refused" (spRef K CT CO CL) := by
  refine D.cal sc__law_refused (fun vs H Q E h => ?_) (fun f cdv A outer s H vs Q E hG hr h => ?_)
  · obtain ⟨a, v, d, rfl, _⟩ := h
    rfl
  · obtain ⟨t, v, d, rfl, hd, nm, q⟩ := h
    refine ⟨_, (pss_cons (ps_set (i := 2) sc__law_refused.nd rfl (Or.inl rfl) pe_non)
      (pss_cons (Gt.ps_try_cl (tb := fun W => tDrop (fun σ H Q => tMethX CT "grow" (spTBad K CN CT CO) (WE W) (tVar 0) (tCons (tVar 1) tNil) σ H Q ∨ tMethX CL "grow" (Lf.spB1 K CN CL) (WE W) (tVar 0) (tCons (tVar 1) tNil) σ H Q)) (Wout := fun _ _ _ _ => False) (l := [(.ref CN, some 3, tsRf CN)]) rfl rfl sc__law_refused.nd takes0 (fun W pn xe tk _ => pss_one (ps_expr (Gx.pe_or (pe_mtX x_tgrow hr (by decide) tk (pv 0) (by exact (pa_cons (pv 1) pa_nil))) (pe_mtX x_lgrow hr (by decide) tk (pv 0) (by exact (pa_cons (pv 1) pa_nil))))))
  (.named ⟨rfl, by decide, Or.inl RK.g_NoMake⟩ rfl rfl (fun a oe cls d pn hz hf => pss_one (ps_set (i := 2) sc__law_refused.nd rfl (Or.inl rfl) (pe_lst (pa_cons (pe_found RK.e_NoMake hz hf (pv 3)) pa_nil)))) .nil))
      (pss_one (ps_ret (pv 2))))), ?_⟩
    rcases nm with ⟨N, n, ms, ls, ts, x, bad⟩ | ⟨ow, ds, tr, bad⟩
    · obtain ⟨dx, fs, e1, nl⟩ := x.ins
      refine .inl ⟨_, rfl, t, dx, fs, rfl, e1, nl _ (by decide), _, rfl, N, t, n, ms, ls, ts, v, d, rfl, x, hd, bad, fun a ha => ⟨true, kk, fun _ a' ha' => ?_, (fun z => by cases z)⟩⟩
      have s1 : Same H (upd H a (.xd [("found", v)])) := same_new ha
      have hx : (upd H a (.xd [("found", v)])) a = some (.xd [("found", v)]) := upd_same
      generalize upd H a (.xd [("found", v)]) = H1 at *
      refine ⟨_, rfl, rfl, rfl, a, _, rfl, hx, (by show 1 ≤ sizeLine; decide), fun p hp => ?_⟩
      exact ⟨_, rfl, q p _ (none_of' s1 hp) (s1.trans (same_new hp)) upd_same⟩
    · obtain ⟨dx, o, de, n, fs, e1, l1, l2, l3, nl, e2, e3, lf⟩ := tr.ex
      refine .inr ⟨_, rfl, t, dx, fs, rfl, e1, nl _ (by decide), _, rfl, t, ow, ds, v, d, rfl, tr, hd, bad, fun a ha => ⟨true, kk, fun _ a' ha' => ?_, (fun z => by cases z)⟩⟩
      have s1 : Same H (upd H a (.xd [("found", v)])) := same_new ha
      have hx : (upd H a (.xd [("found", v)])) a = some (.xd [("found", v)]) := upd_same
      generalize upd H a (.xd [("found", v)]) = H1 at *
      refine ⟨_, rfl, rfl, rfl, a, _, rfl, hx, (by show 1 ≤ sizeLine; decide), fun p hp => ?_⟩
      exact ⟨_, rfl, q p _ (none_of' s1 hp) (s1.trans (same_new hp)) upd_same⟩
end
end K18
set_option maxHeartbeats 1000000
namespace K18
open PySem PySem.Spec PyProof.Rows L2 Gd Gs Gx Ge
open C8 (clsBody Met pe_mt pe_mt0)
/-- a tour and its tree -/
structure Pr2 (CT CO CL : Addr) (H : Hp) (N M : Addr → Prop) (t u : Addr) (n : Nat) (ms ls : List Nat) (ts : Nat) (ow : List Nat) : Prop where
  tou : TouA N H t CT CO n ms ls ts
  tree : Lf.Lw CL M H u ow
  fit : Fits ms ow n
  few : n ≤ 64
theorem Pr2.kp {CT CO CL : Addr} {H H' : Hp} {N M : Addr → Prop} {t u : Addr} {n : Nat} {ms ls : List Nat} {ts : Nat} {ow : List Nat} (p : Pr2 CT CO CL H N M t u n ms ls ts ow) (k : ∀ c v, (N c ∨ M c ∨ c = u) → H c = some v → H' c = some v) (kt : KT H H') : Pr2 CT CO CL H' N M t u n ms ls ts ow :=
  ⟨p.tou.kp (fun c v h z => k c v (.inl h) z) kt, p.tree.kp fun c v h z => k c v (.inr h) z, p.fit, p.few⟩
def Kb (H H' : Hp) (b : Addr) : Prop := ∀ c v, c ≠ b → H c = some v → H' c = some v
theorem Kb.of {H H' : Hp} {b : Addr} (k : ∀ c, c ≠ b → H' c = H c) : Kb H H' b := fun c v h z => (k c h).trans z
theorem Kb.trans {H1 H2 H3 : Hp} {b : Addr} (x : Kb H1 H2 b) (y : Kb H2 H3 b) : Kb H1 H3 b := fun c v h z => y c v h (x c v h z)
theorem Kb.same {H1 H2 H3 : Hp} {b : Addr} (x : Kb H1 H2 b) (y : Same H2 H3) : Kb H1 H3 b := fun c v h z => y c v (x c v h z)
theorem Pr2.kb {CT CO CL : Addr} {H H' : Hp} {N M : Addr → Prop} {t u b : Addr} {n : Nat} {ms ls : List Nat} {ts : Nat} {ow : List Nat} {m : Int} (p : Pr2 CT CO CL H N M t u n ms ls ts ow) (hb : BoxD H b m) (nN : ¬ N b) (nM : ¬ M b) (k : Kb H H' b) : Pr2 CT CO CL H' N M t u n ms ls ts ow := by
  obtain ⟨x, y, z, kvs, h, _⟩ := hb
  obtain ⟨_, _, dx, q, fs, _, e1, _⟩ := p.tree.ex
  refine p.kp (fun c v hc w => k c v (fun e => ?_) w) fun c ys w => k c _ (fun e => ?_) w
  · subst e
    rcases hc with hc | hc | hc
    · exact nN hc
    · exact nM hc
    · obtain ⟨dx, o, d, nn, gs, u1, _⟩ := p.tree.tr.ex
      rw [hc, u1] at h
      cases h
  · rw [e, h] at w
    cases w
theorem nat_of {d : Int} {n : Nat} (h0 : 0 ≤ d) (h1 : d < (n : Nat)) : ∃ i : Nat, d = (i : Nat) ∧ i < n := ⟨d.toNat, by omega, by omega⟩
/-- one of the four bad things -/
theorem bad_one {n : Nat} {v : V} (h : v ∈ [V.int (-1), num n, .non, .bl true]) : ∃ d : PyData, (∀ (K : PySem.W.Frag) (H : Hp), Dp K H v d) ∧ Lf.wholeD d 0 ((n : Int) - 1) = false ∧ PyData.canLay0 (.list [d]) = true ∧ SeqAt.shaped (.list [d]) = true := by
  simp only [List.mem_cons, List.not_mem_nil, or_false] at h
  rcases h with rfl | rfl | rfl | rfl
  · refine ⟨.int (-1), fun _ _ => .int _, rfl, by simp [PyData.canLay0, PyData.canLayAll0], ?_⟩
    unfold SeqAt.shaped
    simp [PyData.canLay0, PyData.canLayAll0, PyData.depth, PyData.depthAll]
  · refine ⟨.int (n : Nat), fun _ _ => .int _, ?_, by simp [PyData.canLay0, PyData.canLayAll0], ?_⟩
    · show (decide ((0 : Int) ≤ ((n : Nat) : Int)) && decide (((n : Nat) : Int) ≤ (n : Int) - 1)) = false
      rw [decide_eq_false (p := ((n : Nat) : Int) ≤ (n : Int) - 1) (by omega), Bool.and_false]
    · unfold SeqAt.shaped
      simp [PyData.canLay0, PyData.canLayAll0, PyData.depth, PyData.depthAll]
  · refine ⟨.none, fun _ _ => .non, rfl, by simp [PyData.canLay0, PyData.canLayAll0], ?_⟩
    unfold SeqAt.shaped
    simp [PyData.canLay0, PyData.canLayAll0, PyData.depth, PyData.depthAll]
  · refine ⟨.bool true, fun _ _ => .bl _, rfl, by simp [PyData.canLay0, PyData.canLayAll0], ?_⟩
    unfold SeqAt.shaped
    simp [PyData.canLay0, PyData.canLayAll0, PyData.depth, PyData.depthAll]
section
variable {P : Program} {w : World} {K : PySem.W.Frag} {mg : Str → Option Value} {base : Heap} {CT CO CL : Addr}
def spBoth (CT CO CL : Addr) : Sp := fun vs H Q _ => ∃ (N M : Addr → Prop) (b t u : Addr) (n : Nat) (ms ls : List Nat) (ts : Nat) (ow : List Nat) (cnt : Int), vs = [.ref b, .ref t, .ref u] ∧ BoxD H b cnt ∧ cnt ≤ 100000 ∧ Pr2 CT CO CL H N M t u n ms ls ts ow ∧ ¬ N b ∧ ¬ M b ∧
  ∀ H', BoxD H' b (cnt + 6) → Kb H H' b → Q (.bl true) H'
theorem ok_both (T : Txt K mg) (c__law_take : CalG P w K mg base 1 "_law_take" spTakeD) (c__law_pair_right : CalG P w K mg base 7 "_law_pair_right" (spPair CT CO CL)) (c__law_refused : CalG P w K mg base 5 "_law_refused" (spRef K CT CO CL)) (c__law_stretch_right : CalG P w K mg base 7 "_law_stretch_right" (spStretch CT CO)) (m_many : Met P w K mg base 1 CL "many" (Lf.spMany CL) []) (m_tmany : Met P w K mg base 1 CT "many" (spTMany CT CO) [])
    (D : DefAt K mg "_law_both_right" s__law_both_right ["_law_box_here", "_law_tour", "_law_tree"]) : CalG P w K mg base 8 "_law_both_right" (spBoth CT CO CL) := by
  refine D.cal sc__law_both_right (fun vs H Q E h => ?_) (fun f cdv A outer s H vs Q E hG hr h => ?_)
  · obtain ⟨N, M, b, t, u, n, ms, ls, ts, ow, cnt, rfl, _⟩ := h
    rfl
  · obtain ⟨N, M, b, t, u, n, ms, ls, ts, ow, cnt, rfl, hB, hc, p, nN, nM, q⟩ := h
    have cn := p.fit.cnt
    have few := p.few
    obtain ⟨du, o, d, nn, fu, u1, u2, u3, u4, unl, u5, u6, ulf⟩ := p.tree.tr.ex
    obtain ⟨dx, fs, e1, nl⟩ := p.tou.ins
    refine ⟨_, (pss_cons (ps_set (i := 3) sc__law_both_right.nd rfl (Or.inl rfl) (pe_mt0 m_many hr (by decide) (pv 2)))
      (pss_cons (ps_for PassesOwn.never rfl (pi_range1 rfl T.b_range (pa_cons pe_int pa_nil)) (pg_name (i := 4) sc__law_both_right.nd rfl (Or.inl rfl))
          (pss_cons (ps_par (i := 5) (j := 6) rfl sc__law_both_right.nd rfl rfl (by decide) rfl rfl (pa_cons (pe_g c__law_take hG (hr.mono (by decide)) (by rfl) (pa_cons (pv 0) (pa_cons (pv 3) pa_nil))) (pa_cons (pe_g c__law_take hG (hr.mono (by decide)) (by rfl) (pa_cons (pv 0) (pa_cons (pv 3) pa_nil))) pa_nil)) rfl)
          (pss_one (ps_if (pt_not (pt_val (pe_g c__law_pair_right hG (hr.mono (by decide)) (by rfl) (pa_cons (pv 1) (pa_cons (pv 2) (pa_cons (pv 5) (pa_cons (pv 6) pa_nil)))))))
              (pss_one (ps_ret pe_bl)) pss_nil))))
      (pss_cons (ps_set (i := 7) sc__law_both_right.nd rfl (Or.inl rfl) (pe_ix ix_list (pe_lst (pa_cons (pe_un un_neg pe_int) (pa_cons (pv 3) (pa_cons pe_non (pa_cons pe_bl pa_nil))))) (pe_g c__law_take hG (hr.mono (by decide)) (by rfl) (pa_cons (pv 0) (pa_cons pe_int pa_nil))) (fun _ _ => rfl)))
      (pss_cons (ps_if (PW.pt (pw_or (pt_cmpR (op_neD (hu64 hr)) (pe_g c__law_refused hG (hr.mono (by decide)) (by rfl) (pa_cons (pv 1) (pa_cons (pv 7) pa_nil))) (pe_lst (pa_cons (pv 7) pa_nil)) (nomark _)) (pw_or1 (pt_cmpR (op_neD (hu64 hr)) (pe_g c__law_refused hG (hr.mono (by decide)) (by rfl) (pa_cons (pv 2) (pa_cons (pv 7) pa_nil))) (pe_lst (pa_cons (pv 7) pa_nil)) (nomark _)))))
          (pss_one (ps_ret pe_bl)) pss_nil)
      (pss_one (ps_ret (pe_and (pe_cmpR op_eq (pe_mt0 m_tmany hr (by decide) (pv 1)) (pv 3) (nomark _)) (pe_one (pe_g c__law_stretch_right hG (hr.mono (by decide)) (by rfl) (pa_cons (pv 1) (pa_cons (pe_g c__law_take hG (hr.mono (by decide)) (by rfl) (pa_cons (pv 0) (pa_cons (pv 3) pa_nil))) pa_nil))))))))))), ?_⟩
    refine ⟨_, rfl, u, du, fu, rfl, u1, unl _ (by decide), u, ow, _, rfl, p.tree.tr, ?_⟩
    rw [← cn]
    refine ⟨2, rfl, by decide, by decide, ?_⟩
    refine for_range (lo := 0) (n := 2) (fun k σ H' => ∃ y4 y5 y6 y7, σ = [some (.ref b), some (.ref t), some (.ref u), some (num n), y4, y5, y6, y7] ∧ BoxD H' b (cnt + 2 * k) ∧ Kb H H' b) ⟨none, none, none, none, rfl, hB.up (by omega), fun c v _ z => z⟩ (fun k σ H1 hk hP => ?_) (fun σ H1 hP => ?_)
    · obtain ⟨y4, y5, y6, y7, rfl, hB1, k1⟩ := hP
      refine ⟨_, rfl, _, rfl, b, (n : Nat), _, rfl, hB1, by omega, by omega, by omega, fun d1 H2 a0 a1 hB2 k2 => ?_⟩
      refine ⟨_, rfl, _, rfl, b, (n : Nat), _, rfl, hB2, by omega, by omega, by omega, fun d2 H3 b0 b1 hB3 k3 => ?_⟩
      obtain ⟨i, rfl, hi⟩ := nat_of a0 a1
      obtain ⟨j, rfl, hj⟩ := nat_of b0 b1
      have k13 := (k1.trans (Kb.of k2)).trans (Kb.of k3)
      have p3 := p.kb hB nN nM k13
      refine ⟨_, _, rfl, ?_⟩
      refine ⟨_, rfl, _, rfl, _, rfl, _, rfl, N, t, u, n, ms, ls, ts, i, j, ow, rfl, p3.tou, p3.tree.tr, p.fit, hi, hj, few, fun H4 s4 => ⟨_, rfl, iteF ?_⟩⟩
      exact ⟨_, _, _, _, rfl, (hB3.kp fun u z => s4 _ _ z).up (by omega), k13.same s4⟩
    · obtain ⟨y4, y5, y6, y7, rfl, hB1, k1⟩ := hP
      refine ⟨_, rfl, _, rfl, (by show 4 ≤ sizeLine; decide), fun l hl => ?_⟩
      rw [show (fun i : Int => V.int (-i)) 1 = V.int (-1) from rfl]
      have s2 := same_new (o := .lst [.int (-1), num n, .non, .bl true]) hl
      have e2 : (upd H1 l (.lst [.int (-1), num n, .non, .bl true])) l = some (.lst [.int (-1), num n, .non, .bl true]) := upd_same
      generalize upd H1 l (.lst [.int (-1), num n, .non, .bl true]) = H2 at *
      have hB2 := hB1.kp (H' := H2) fun u z => s2 _ _ z
      have lb : l ≠ b := hB1.ne hl
      refine ⟨_, rfl, b, 4, _, rfl, hB2, by omega, by decide, by decide, fun d0 H3 c0 c1 hB3 k3 => ?_⟩
      obtain ⟨bad, hbad, hat⟩ := pickL [.int (-1), num n, .non, .bl true] c0 (by show d0 < ((4 : Nat) : Int); omega)
      refine ⟨l, _, _, bad, rfl, rfl, SqL.of ((k3 _ lb).trans e2), hat, ?_⟩
      obtain ⟨dd, hD, hw, hcan, hsh⟩ := bad_one hbad
      have k13 := (k1.same s2).trans (Kb.of k3)
      have p3 := p.kb hB nN nM k13
      refine ⟨_, rfl, _, rfl, t, bad, dd, rfl, .dp (hD K _), .inl ⟨N, n, ms, ls, ts, p3.tou, hw⟩, fun p1 H4 n1 s4 e4 => ?_⟩
      refine ⟨_, rfl, (by show 1 ≤ sizeLine; decide), fun p2 hp2 => ?_⟩
      have s5 := same_new (o := .lst [bad]) hp2
      have e5 : (upd H4 p2 (.lst [bad])) p2 = some (.lst [bad]) := upd_same
      generalize upd H4 p2 (.lst [bad]) = H5 at *
      refine ⟨.list [dd], .list [dd], .lst (SqL.of (s5 _ _ e4)) (.cons (hD _ _) .nil), .lst (SqL.of e5) (.cons (hD _ _) .nil), hsh, hsh, _, rfl, ?_⟩
      rw [PySem.SeqAt.eqv_refl _ hcan]
      refine iteF ?_
      have tr5 := (p3.tree.tr.same s4).same s5
      have hw2 : Lf.wholeD dd 0 ((ow.length : Nat) : Int) = false := by
        rw [show ((ow.length : Nat) : Int) = (n : Int) - 1 from by omega]
        exact hw
      refine ⟨_, rfl, _, rfl, u, bad, dd, rfl, .dp (hD K _), .inr ⟨ow, _, tr5, hw2⟩, fun p3' H6 n6 s6 e6 => ?_⟩
      refine ⟨_, rfl, (by show 1 ≤ sizeLine; decide), fun p4 hp4 => ?_⟩
      have s7 := same_new (o := .lst [bad]) hp4
      have e7 : (upd H6 p4 (.lst [bad])) p4 = some (.lst [bad]) := upd_same
      generalize upd H6 p4 (.lst [bad]) = H7 at *
      refine ⟨.list [dd], .list [dd], .lst (SqL.of (s7 _ _ e6)) (.cons (hD _ _) .nil), .lst (SqL.of e7) (.cons (hD _ _) .nil), hsh, hsh, _, rfl, ?_⟩
      rw [PySem.SeqAt.eqv_refl _ hcan]
      refine iteF ?_
      have s37 := ((s4.trans s5).trans s6).trans s7
      have x7 := p3.tou.same s37
      have k17 := k13.same s37
      have hB7 := hB3.kp (H' := H7) fun u z => s37 _ _ z
      obtain ⟨dx7, fs7, e17, nl7⟩ := x7.ins
      refine ⟨_, rfl, t, dx7, fs7, rfl, e17, nl7 _ (by decide), N, t, n, ms, ls, ts, rfl, x7, _, rfl, rfl, _, rfl, ?_⟩
      refine ite2 (fun _ => ?_) (fun h => absurd (by simp) h)
      refine ⟨_, rfl, _, rfl, _, rfl, b, (n : Nat), _, rfl, hB7, by omega, by omega, by omega, fun d1 H8 a0 a1 hB8 k8 => ?_⟩
      obtain ⟨i, rfl, hi⟩ := nat_of a0 a1
      have k18 := k17.trans (Kb.of k8)
      have p8 := p.kb hB nN nM k18
      exact ⟨N, t, n, ms, ls, ts, i, ow, rfl, p8.tou, p.fit, hi, few, fun H9 s9 => q _ ((hB8.kp fun u z => s9 _ _ z).up (by omega)) (k18.same s9)⟩
end
end K18
set_option maxHeartbeats 1000000
namespace K18
open PySem PySem.Spec PyProof.Rows L2 Gd
namespace Lf
theorem Tw.cutL {N : Addr → Prop} {H : Hp} {t C : Addr} {ow : List Nat} (w : Tw N H t C ow) : Tw (fun c => N c ∧ ∃ ys, H c = some (.lst ys)) H t C ow := by
  obtain ⟨dx, o, d, n, fs, ns, e1, l1, l2, l3, nl, e2, e3, e4, lf, hns, od, on, dn, hin, No, Nd, Nn⟩ := w.ex
  refine ⟨⟨dx, o, d, n, fs, ns, e1, l1, l2, l3, nl, e2, e3, e4, lf, hns, od, on, dn, fun a ha => ?_, ⟨No, _, e2⟩, ⟨Nd, _, e3⟩, ⟨Nn, _, e4⟩⟩, w.low, w.few⟩
  obtain ⟨⟨ks, h1, h2⟩, a1, a2, a3, a4⟩ := hin a ha
  exact ⟨⟨ks, h1, h2⟩, a1, a2, a3, a4, _, h1⟩
theorem Lw.cutL {C t : Addr} {N : Addr → Prop} {H : Hp} {ow : List Nat} (l : Lw C N H t ow) : Lw C (fun c => N c ∧ ∃ ys, H c = some (.lst ys)) H t ow := by
  obtain ⟨N1, N2, dx, q, fs, tw, e1, l1, lv, dis, i1, i2⟩ := l.ex
  obtain ⟨ls, h1, h2, h3, h4⟩ := lv.ex
  refine ⟨_, (fun c => N2 c ∧ ∃ ys, H c = some (.lst ys)), dx, q, fs, tw.cutL, e1, l1, ⟨ls, h1, h2, ⟨h3, _, h1⟩, fun i a ha => ?_⟩, fun c h1 h2 => dis c h1.1 h2.1, fun c h => ⟨i1 _ h.1, h.2⟩, fun c h => ⟨i2 _ h.1, h.2⟩⟩
  obtain ⟨a1, a2, a3⟩ := h4 i a ha
  exact ⟨⟨a1, _, a3⟩, a2, a3⟩
end Lf
/-- one tour and its tree, as they are laid -/
structure Pa where
  t : Addr
  u : Addr
  N : Addr → Prop
  M : Addr → Prop
  n : Nat
  ms : List Nat
  ls : List Nat
  ts : Nat
  ow : List Nat
def Pa.R (x : Pa) (c : Addr) : Prop := x.N c ∨ x.M c ∨ c = x.u
structure At (CT CO CL : Addr) (H : Hp) (x : Pa) : Prop where
  pr : Pr2 CT CO CL H x.N x.M x.t x.u x.n x.ms x.ls x.ts x.ow
  dis : ∀ c, x.N c → ¬ (x.M c ∨ c = x.u)
  al : ∀ c, x.N c → H c ≠ none
  ml : ∀ c, x.M c → ∃ ys, H c = some (.lst ys)
section
variable {CT CO CL : Addr} {S H H' : Hp} {x x' : Pa}
theorem At.alR (a : At CT CO CL H x) (c : Addr) (h : x.R c) : H c ≠ none := by
  rcases h with h | h | h
  · exact a.al c h
  · obtain ⟨ys, e⟩ := a.ml c h
    rw [e]
    simp
  · obtain ⟨dx, o, d, nn, fu, u1, _⟩ := a.pr.tree.tr.ex
    rw [h, u1]
    simp
theorem At.kp (a : At CT CO CL H x) (k : ∀ c v, x.R c → H c = some v → H' c = some v) (kt : KT H H') : At CT CO CL H' x :=
  ⟨a.pr.kp (fun c v h z => k c v h z) kt, a.dis, fun c h => by
    obtain ⟨v, hv⟩ := Option.ne_none_iff_exists'.mp (a.al c h)
    rw [k c v (.inl h) hv]
    simp, fun c h => by
    obtain ⟨ys, e⟩ := a.ml c h
    exact ⟨ys, k c _ (.inr (.inl h)) e⟩⟩
theorem At.same (a : At CT CO CL H x) (s : Same H H') : At CT CO CL H' x := a.kp (fun c v _ z => s c v z) (KT.of s)
end
/-- both pairs in their lists -/
structure Inv (CT CO CL : Addr) (S H : Hp) (L1 L2 : Addr) (xs : List Pa) : Prop where
  sm : Same S H
  l1 : H L1 = some (.lst (xs.map fun x => V.ref x.t))
  l2 : H L2 = some (.lst (xs.map fun x => V.ref x.u))
  n1 : S L1 = none
  n2 : S L2 = none
  at_ : ∀ x, x ∈ xs → At CT CO CL H x
  fr : ∀ x, x ∈ xs → ∀ c, x.R c → S c = none ∧ c ≠ L1 ∧ c ≠ L2
  ap : ∀ (i j : Nat) (x y : Pa), i ≠ j → xs[i]? = some x → xs[j]? = some y → ∀ c, x.R c → ¬ y.R c
section
variable {CT CO CL : Addr} {S H H' : Hp} {L1 L2 b : Addr} {xs : List Pa}
theorem Inv.same (v : Inv CT CO CL S H L1 L2 xs) (s : Same H H') : Inv CT CO CL S H' L1 L2 xs :=
  ⟨v.sm.trans s, s _ _ v.l1, s _ _ v.l2, v.n1, v.n2, fun x hx => (v.at_ x hx).same s, v.fr, v.ap⟩
theorem box_kt {m : Int} (hb : BoxD H b m) (k : Kb H H' b) : KT H H' := fun c ys z => k c _ (fun e => by
  obtain ⟨_, _, _, kvs, h, _⟩ := hb
  rw [e, h] at z
  cases z) z
theorem Inv.kb {m : Int} (v : Inv CT CO CL S H L1 L2 xs) (hb : BoxD H b m) (nS : S b = none) (nb : ∀ x, x ∈ xs → ¬ x.R b) (k : Kb H H' b) : Inv CT CO CL S H' L1 L2 xs := by
  have nl : ∀ c ys, H c = some (.lst ys) → c ≠ b := fun c ys z e => by
    obtain ⟨_, _, _, kvs, h, _⟩ := hb
    rw [e, h] at z
    cases z
  exact ⟨fun c u z => k c u (ne_of_none z nS) (v.sm _ _ z), k _ _ (nl _ _ v.l1) v.l1, k _ _ (nl _ _ v.l2) v.l2, v.n1, v.n2, fun x hx => (v.at_ x hx).kp (fun c u h z => k c u (fun e => nb x hx (e ▸ h)) z) (box_kt hb k), v.fr, v.ap⟩
theorem set_at {j i : Nat} {x y : Pa} (h : (xs.set j x)[i]? = some y) : (i = j ∧ y = x) ∨ (i ≠ j ∧ xs[i]? = some y) := by
  by_cases e : i = j
  · subst e
    rw [List.getElem?_set] at h
    rw [if_pos rfl] at h
    split at h
    · exact .inl ⟨rfl, (Option.some.inj h).symm⟩
    · cases h
  · rw [List.getElem?_set, if_neg (fun z => e z.symm)] at h
    exact .inr ⟨e, h⟩
theorem mem_set_at {j : Nat} {x y : Pa} (h : y ∈ xs.set j x) : y = x ∨ ∃ i, i ≠ j ∧ xs[i]? = some y := by
  obtain ⟨i, hi⟩ := List.getElem?_of_mem h
  rcases set_at hi with ⟨_, e⟩ | ⟨e, h⟩
  · exact .inl e
  · exact .inr ⟨i, e, h⟩
theorem set_map {j : Nat} {x' : Pa} {f : Pa → V} (h : ∀ x, xs[j]? = some x → f x' = f x) : (xs.set j x').map f = xs.map f := by
  rw [List.map_set]
  refine List.ext_getElem? fun i => ?_
  rw [List.getElem?_set]
  by_cases e : j = i
  · subst e
    rw [if_pos rfl, List.length_map]
    split
    · rename_i hl
      rw [List.getElem?_map, List.getElem?_eq_getElem hl, h _ (List.getElem?_eq_getElem hl)]
      rfl
    · rename_i hl
      rw [List.getElem?_map, List.getElem?_eq_none (by omega)]
      rfl
  · rw [if_neg e]
theorem Inv.step {j : Nat} {x x' : Pa} (v : Inv CT CO CL S H L1 L2 xs) (hj : xs[j]? = some x) (ht : x'.t = x.t) (hu : x'.u = x.u) (a : At CT CO CL H' x') (fr : ∀ c, x'.R c → x.R c ∨ H c = none) (k : ∀ c w, ¬ x.R c → H c = some w → H' c = some w) (kt : KT H H') : Inv CT CO CL S H' L1 L2 (xs.set j x') := by
  have hx := List.mem_of_getElem? hj
  have nx := v.fr x hx
  have frS : ∀ c, x'.R c → S c = none ∧ c ≠ L1 ∧ c ≠ L2 := fun c h => by
    rcases fr c h with h | h
    · exact nx c h
    · exact ⟨none_of' v.sm h, (fun e => by rw [e, v.l1] at h; cases h), (fun e => by rw [e, v.l2] at h; cases h)⟩
  have out : ∀ i y, i ≠ j → xs[i]? = some y → ∀ c, y.R c → ¬ x'.R c := fun i y hi hy c h1 h2 => by
    rcases fr c h2 with h | h
    · exact v.ap i j y x hi hy hj c h1 h
    · exact (v.at_ y (List.mem_of_getElem? hy)).alR c h1 h
  refine ⟨fun c w z => k c w (fun h => by rw [(nx c h).1] at z; cases z) (v.sm _ _ z), ?_, ?_, v.n1, v.n2, fun y hy => ?_, fun y hy => ?_, fun i i' y z hne h1 h2 c h3 h4 => ?_⟩
  · rw [set_map fun z hz => by rw [hj] at hz; cases hz; rw [ht]]
    exact k _ _ (fun h => (nx _ h).2.1 rfl) v.l1
  · rw [set_map fun z hz => by rw [hj] at hz; cases hz; rw [hu]]
    exact k _ _ (fun h => (nx _ h).2.2 rfl) v.l2
  · rcases mem_set_at hy with rfl | ⟨i, hi, h⟩
    · exact a
    · exact (v.at_ y (List.mem_of_getElem? h)).kp (fun c w hc z => k c w (fun hx' => v.ap i j y x hi h hj c hc hx') z) kt
  · rcases mem_set_at hy with rfl | ⟨i, hi, h⟩
    · exact frS
    · exact v.fr y (List.mem_of_getElem? h)
  · rcases set_at h1 with ⟨rfl, rfl⟩ | ⟨e1, g1⟩
    · rcases set_at h2 with ⟨rfl, rfl⟩ | ⟨e2, g2⟩
      · exact hne rfl
      · exact out i' z e2 g2 c h4 h3
    · rcases set_at h2 with ⟨rfl, rfl⟩ | ⟨e2, g2⟩
      · exact out i y e1 g1 c h3 h4
      · exact v.ap i i' y z hne g1 g2 c h3 h4
theorem Inv.put {j : Nat} {x' : Pa} (v : Inv CT CO CL S H L1 L2 xs) (a : At CT CO CL H' x') (fr : ∀ c, x'.R c → H c = none) (k : ∀ c w, c ≠ L1 → c ≠ L2 → H c = some w → H' c = some w)
    (e1 : H' L1 = some (.lst ((xs.set j x').map fun x => V.ref x.t))) (e2 : H' L2 = some (.lst ((xs.set j x').map fun x => V.ref x.u))) : Inv CT CO CL S H' L1 L2 (xs.set j x') := by
  have kt : KT H H' := fun c ys z => k c _ (fun e => by rw [e, v.l1] at z; cases z) (fun e => by rw [e, v.l2] at z; cases z) z
  have out : ∀ y, y ∈ xs → ∀ c, y.R c → ¬ x'.R c := fun y hy c h1 h2 => (v.at_ y hy).alR c h1 (fr c h2)
  refine ⟨fun c w z => k c w (ne_of_none z v.n1) (ne_of_none z v.n2) (v.sm _ _ z), e1, e2, v.n1, v.n2, fun y hy => ?_, fun y hy => ?_, fun i i' y z hne h1 h2 c h3 h4 => ?_⟩
  · rcases mem_set_at hy with rfl | ⟨i, hi, h⟩
    · exact a
    · have hy := List.mem_of_getElem? h
      exact (v.at_ y hy).kp (fun c w hc z => k c w (v.fr y hy c hc).2.1 (v.fr y hy c hc).2.2 z) kt
  · rcases mem_set_at hy with rfl | ⟨i, hi, h⟩
    · exact fun c h => ⟨none_of' v.sm (fr c h), (fun e => by have := fr c h; rw [e, v.l1] at this; cases this), (fun e => by have := fr c h; rw [e, v.l2] at this; cases this)⟩
    · exact v.fr y (List.mem_of_getElem? h)
  · rcases set_at h1 with ⟨rfl, rfl⟩ | ⟨e1, g1⟩
    · rcases set_at h2 with ⟨rfl, rfl⟩ | ⟨e2, g2⟩
      · exact hne rfl
      · exact out z (List.mem_of_getElem? g2) c h4 h3
    · rcases set_at h2 with ⟨rfl, rfl⟩ | ⟨e2, g2⟩
      · exact out y (List.mem_of_getElem? g1) c h3 h4
      · exact v.ap i i' y z hne g1 g2 c h3 h4
end
/-- one make more, on i -/
theorem Fits.grow {CT CO : Addr} {N : Addr → Prop} {H : Hp} {t : Addr} {n ts i : Nat} {ms ls ow : List Nat} (f : Fits ms ow n) (hi : i < n) (x : TouA N H t CT CO (n + 1) (msG ms (ms.idxOf (2 * i))) ls ts) : Fits (msG ms (ms.idxOf (2 * i))) (ow ++ [i]) (n + 1) := by
  have cn := f.cnt
  have hw := f.at_ (k := 2 * i) (by omega)
  have nd2 := x.ok.nd
  exact ⟨Lf.low_more f.low (by omega), by rw [List.length_append]; show n + 1 = ow.length + 1 + 1; omega, x.len, nd2, x.has, fun k hk => by
    obtain ⟨j, hj⟩ := List.getElem?_of_mem hk
    exact x.ok.lt j k hj, f.nest.grow hi f.len f.has f.nd nd2 hw, f.lam.grow hi f.len f.has nd2 (lt_at hw)⟩
theorem Fits.start : Fits [0, 1] [] 1 :=
  ⟨fun i j h => by simp at h, rfl, rfl, fun i j m h1 h2 => by
    match i, j, h1, h2 with
    | 0, 0, _, _ => rfl
    | 0, 1, h1, h2 => cases h1; cases h2
    | 0, j + 2, _, h => simp at h
    | 1, 0, h1, h2 => cases h1; cases h2
    | 1, 1, _, _ => rfl
    | 1, j + 2, _, h => simp at h
    | i + 2, _, h, _ => simp at h, fun k hk => by
    rcases (by omega : k = 0 ∨ k = 1) with rfl | rfl
    · exact ⟨0, rfl⟩
    · exact ⟨1, rfl⟩, fun k hk => by
    simp only [List.mem_cons, List.not_mem_nil, or_false] at hk
    omega, Nest.start, Lam.start⟩
end K18
set_option maxHeartbeats 1000000
namespace K18
open PySem PySem.Spec PyProof.Rows L2 Gd Gx
open C8 (clsBody Met pe_mt pe_mt0)
theorem ne_keep {H H' : Hp} {c : Addr} (s : Same H H') (h : H c ≠ none) : H' c ≠ none := by
  obtain ⟨v, hv⟩ := Option.ne_none_iff_exists'.mp h
  rw [s _ _ hv]
  simp
theorem Fits.due {ms ow : List Nat} {n a : Nat} (f : Fits ms ow n) (ha : a < n) : (a :: (byL 0 ms).filter (insB ms a)).Perm ((List.range n).filter fun m => decide (a ∈ Lf.line ow m)) := by
  have z1 : insB ms a a = false := by
    unfold insB
    rw [decide_eq_false (Nat.lt_irrefl _), Bool.false_and]
  refine perm_of_mem (List.pairwise_cons.mpr ⟨fun y hy e => ?_, List.Pairwise.filter _ (f.nd_com 0)⟩) (List.Pairwise.filter _ List.nodup_range) fun y => ?_
  · have := (List.mem_filter.mp hy).2
    rw [← e, z1] at this
    cases this
  · rw [List.mem_cons, List.mem_filter, List.mem_filter, List.mem_range, f.mem_com]
    constructor
    · intro h
      have hy : y < n := h.elim (fun e => e ▸ ha) fun h => h.1
      refine ⟨hy, ?_⟩
      rw [← f.within ha hy]
      rcases h with rfl | h
      · simp
      · rw [h.2, Bool.or_true]
    · rintro ⟨hy, h⟩
      rw [← f.within ha hy, Bool.or_eq_true, decide_eq_true_eq] at h
      rcases h with h | h
      · exact .inl h.symm
      · exact .inr ⟨hy, h⟩
theorem range_up (n : Nat) (g : Nat → Bool) : (((List.range n).filter g).map fun m => ((m : Nat) : Int)).Pairwise (· ≤ ·) := by
  refine List.pairwise_map.mpr (List.Pairwise.imp (R := (· < ·)) (fun {a b} h => ?_) (List.Pairwise.filter _ List.pairwise_lt_range))
  show ((a : Nat) : Int) ≤ ((b : Nat) : Int)
  omega
section
variable {P : Program} {w : World} {K : PySem.W.Frag} {mg : Str → Option Value} {base : Heap} {CT CO CL : Addr}
def spLaw (K : PySem.W.Frag) : Sp := fun vs H Q _ => ∃ (a : Addr) (ns : List Int), vs = [.ref a] ∧ SqL K H a (ns.map V.int) ∧ ns.length ≤ 63 ∧ ∀ H', Q (.bl true) H'
theorem ok_law {fT fL : Addr} {fdT fdL : FuncData} (T : Txt K mg) (OC : TouC K CT) (TC : Lf.TreeC K CL) {f : Addr} {fd : FuncData} (F : Fun K "law" "law" s_law f fd)
    (cT : mg "Tour" = some (.ref CT)) (M_Tour : Mk K CT fT) (B_Tour : Binds K fdT ["self"] []) (G_Tour : FnOk P w K mg base CX0 4 fT fdT ["self"] (spTInit CT CO))
    (cL : mg "LeapTree" = some (.ref CL)) (M_LeapTree : Mk K CL fL) (B_LeapTree : Binds K fdL ["self"] []) (G_LeapTree : FnOk P w K mg base CX0 2 fL fdL ["self"] (Lf.spInitL CL))
    (c__law_cell_at : CalG P w K mg base 1 "_law_cell_at" (Gd.spCell K)) (c__law_box : CalG P w K mg base 1 "_law_box" spBoxD) (c__law_take : CalG P w K mg base 1 "_law_take" spTakeD)
    (c__law_pair_right : CalG P w K mg base 7 "_law_pair_right" (spPair CT CO CL)) (c__law_both_right : CalG P w K mg base 8 "_law_both_right" (spBoth CT CO CL))
    (m_many : Met P w K mg base 1 CL "many" (Lf.spMany CL) []) (m_tgrow : Met P w K mg base 4 CT "grow" (spGrow CT CO) []) (m_lgrow : Met P w K mg base 4 CL "grow" (Lf.spGrowL CL) []) (m_tcopied : Met P w K mg base 6 CT "copied" (spTCopied CT CO) []) (m_lcopied : Met P w K mg base 6 CL "copied" (Lf.spCopied CL (Lf.Lw CL)) [])
    (m_line : Met P w K mg base 3 CL "line" (Lf.spLine CL) []) (m_beneath : Met P w K mg base 6 CT "beneath" (spBen CT CO) []) : FnG P w K mg base CX0 9 f fd ["_law_script"] (spLaw K) := by
  refine okG F sc_law (fun vs H Q E h => ?_) (fun cdv A outer s H vs Q E hG hr h => ?_)
  · obtain ⟨a, ns, rfl, _⟩ := h
    rfl
  · obtain ⟨a, ns, rfl, hS, hl, q⟩ := h
    refine ⟨_, (pss_cons (ps_set (i := 1) sc_law.nd rfl (Or.inl rfl) (pe_lst (pa_cons (pe_make0 M_Tour G_Tour (hr.mono (by decide)) rfl cT B_Tour .nil pass0) (pa_cons (pe_make0 M_Tour G_Tour (hr.mono (by decide)) rfl cT B_Tour .nil pass0) pa_nil))))
      (pss_cons (ps_set (i := 2) sc_law.nd rfl (Or.inl rfl) (pe_lst (pa_cons (pe_make0 M_LeapTree G_LeapTree (hr.mono (by decide)) rfl cL B_LeapTree .nil pass0) (pa_cons (pe_make0 M_LeapTree G_LeapTree (hr.mono (by decide)) rfl cL B_LeapTree .nil pass0) pa_nil))))
      (pss_cons (ps_for PassesOwn.never rfl (pi_range1 rfl T.b_range (pa_cons (pe_callB (call_max2 rfl) (by rfl) T.b_max boot_max_ (pa_cons pe_int (pa_cons (pe_callB (call_min2 rfl) (by rfl) T.b_min boot_min_ (pa_cons pe_int (pa_cons (pe_callB call_len (by rfl) T.b_len boot_len_ (pa_cons (pv 0) pa_nil)) pa_nil))) pa_nil))) pa_nil)) (pg_name (i := 3) sc_law.nd rfl (Or.inl rfl))
          (pss_cons (ps_set (i := 4) sc_law.nd rfl (Or.inl rfl) (pe_g c__law_box hG (hr.mono (by decide)) (by rfl) (pa_cons (pe_g c__law_cell_at hG (hr.mono (by decide)) (by rfl) (pa_cons (pv 0) (pa_cons (pv 3) pa_nil))) pa_nil)))
          (pss_cons (ps_set (i := 5) sc_law.nd rfl (Or.inl rfl) (pe_callTy call_int1 (by rfl) T.t_int boot_int_ (pa_cons (pe_cmpR op_eq (pe_g c__law_take hG (hr.mono (by decide)) (by rfl) (pa_cons (pv 4) (pa_cons pe_int pa_nil))) pe_int (nomark _)) pa_nil)))
          (pss_cons (ps_set (i := 6) sc_law.nd rfl (Or.inl rfl) (pe_g c__law_take hG (hr.mono (by decide)) (by rfl) (pa_cons (pv 4) (pa_cons pe_int pa_nil))))
          (pss_cons (ps_set (i := 7) sc_law.nd rfl (Or.inl rfl) (pe_cmpR op_eq (pe_g c__law_take hG (hr.mono (by decide)) (by rfl) (pa_cons (pv 4) (pa_cons pe_int pa_nil))) pe_int (nomark _)))
          (pss_cons (ps_set (i := 8) sc_law.nd rfl (Or.inl rfl) (pe_mt0 m_many hr (by decide) (pe_ix ix_list (pv 2) (pv 5) (fun _ _ => rfl))))
          (pss_cons (ps_set (i := 9) sc_law.nd rfl (Or.inr rfl) (pe_ix ix_list (pe_lst (pa_cons (pe_g c__law_take hG (hr.mono (by decide)) (by rfl) (pa_cons (pv 4) (pa_cons (pv 8) pa_nil))) (pa_cons (pe_callB (call_max2 rfl) (by rfl) T.b_max boot_max_ (pa_cons pe_int (pa_cons (pe_op op_sub (pe_op op_sub (pv 8) pe_int) (pe_g c__law_take hG (hr.mono (by decide)) (by rfl) (pa_cons (pv 4) (pa_cons pe_int pa_nil)))) pa_nil))) (pa_cons pe_int pa_nil)))) (pv 6) (fun _ _ => rfl)))
          (pss_cons (ps_if (PW.pt (pw_or (pt_cmpR op_ne (pe_mt m_tgrow hr (by decide) (pe_ix ix_list (pv 1) (pv 5) (fun _ _ => rfl)) (pa_cons (pv 9) pa_nil)) (pv 8) (nomark _)) (pw_or1 (pt_cmpR op_ne (pe_mt m_lgrow hr (by decide) (pe_ix ix_list (pv 2) (pv 5) (fun _ _ => rfl)) (pa_cons (pv 9) pa_nil)) (pv 8) (nomark _)))))
              (pss_one (ps_ret pe_bl)) pss_nil)
          (pss_cons (ps_if (pt_val (pv 7))
              (pss_cons (ps_asg (pe_mt0 m_tcopied hr (by decide) (pe_ix ix_list (pv 1) (pv 5) (fun _ _ => rfl))) (pg_sub (pv 1) (pe_op op_sub pe_int (pv 5)) set_list))
              (pss_one (ps_asg (pe_mt0 m_lcopied hr (by decide) (pe_ix ix_list (pv 2) (pv 5) (fun _ _ => rfl))) (pg_sub (pv 2) (pe_op op_sub pe_int (pv 5)) set_list)))) pss_nil)
          (pss_cons (ps_if (pt_not (pt_val (pe_g c__law_pair_right hG (hr.mono (by decide)) (by rfl) (pa_cons (pe_ix ix_list (pv 1) (pv 5) (fun _ _ => rfl)) (pa_cons (pe_ix ix_list (pv 2) (pv 5) (fun _ _ => rfl)) (pa_cons (pv 9) (pa_cons (pv 8) pa_nil)))))))
              (pss_one (ps_ret pe_bl)) pss_nil)
          (pss_one (ps_for PassesOwn.never rfl (pi_range1 rfl T.b_range (pa_cons pe_int pa_nil)) (pg_name (i := 10) sc_law.nd rfl (Or.inl rfl))
              (pss_one (ps_if (pt_not (pt_val (pe_g c__law_both_right hG (hr.mono (by decide)) (by rfl) (pa_cons (pv 4) (pa_cons (pe_ix ix_list (pv 1) (pv 10) (fun _ _ => rfl)) (pa_cons (pe_ix ix_list (pv 2) (pv 10) (fun _ _ => rfl)) pa_nil))))))
                  (pss_one (ps_ret pe_bl)) pss_nil))))))))))))))
      (pss_cons (ps_for PassesOwn.never rfl (pi_zip (by rfl) T.b_zip (pa_cons (pv 1) (pa_cons (pv 2) pa_nil))) (pg_tup (by rfl) (pgs_cons (pg_name (i := 11) sc_law.nd rfl (Or.inl rfl)) (pgs_cons (pg_name (i := 12) sc_law.nd rfl (Or.inr rfl)) pgs_nil)))
          (pss_one (ps_for PassesOwn.never rfl (pi_range1 rfl T.b_range (pa_cons (pe_mt0 m_many hr (by decide) (pv 12)) pa_nil)) (pg_name (i := 9) sc_law.nd rfl (Or.inr rfl))
              (pss_cons (ps_setLc (i := 13) (own := [("_law_one", 10)]) (g := gName 10) (tt := _) rfl sc_law.nd rfl rfl (sw_true rfl rfl rfl (by decide +kernel)) (pi_range1 rfl T.b_range (pa_cons (pe_mt0 m_many hr (by decide) (pv 12)) pa_nil)) (blkOk_by (own := [("_law_one", 10)]) (N := ["_law_script", "_law_tours", "_law_trees", "_law_k", "_law_box_here", "_law_at", "_law_way", "_law_copies", "_law_many", "_law_make", "_law_one", "_law_tour", "_law_tree", "_law_beneath"]) (sc := defScope s_law) (by decide +kernel)) (fun _ _ _ _ _ => pg_name (i := 10) sc_law.nd rfl (Or.inl rfl)) (fun _ _ _ _ _ => (pts_one (pt_cmpR (show OpR _ (compareOp .In) (rIn K false) from op_in_seq) (pv 9) (pe_mt m_line hr (by decide) (pv 12) (pa_cons (pv 10) pa_nil)) (by rfl)))) (fun _ _ _ _ _ => (pv 10)))
              (pss_one (ps_if (pt_cmpR (op_neD (hu64 hr)) (pe_callB cr_sortedI (by rfl) T.b_sorted boot_sorted_ (pa_cons (pe_op op_cat (pe_lst (pa_cons (pv 9) pa_nil)) (pe_mt m_beneath hr (by decide) (pv 11) (pa_cons (pv 9) pa_nil))) pa_nil)) (pv 13) (nomark _))
                  (pss_one (ps_ret pe_bl)) pss_nil))))))
      (pss_one (ps_ret pe_bl)))))), ?_⟩
    intro t1 dt1 a1 a2 a3
    refine ⟨t1, dt1, rfl, upd_same, fun H1 N1 r1 k1 f1 => ⟨rfl, ?_⟩⟩
    have s1 : Same H H1 := Lf.made_same a1 a2 k1
    have f1 : ∀ c, N1 c → H c = none := fun c hc => by
      rcases f1 c hc with rfl | z
      · exact a1
      · exact upd_none (upd_none z)
    intro t2 dt2 b1 b2 b3
    refine ⟨t2, dt2, rfl, upd_same, fun H2 N2 r2 k2 f2 => ⟨rfl, ?_⟩⟩
    have s2 : Same H1 H2 := Lf.made_same b1 b2 k2
    have f2 : ∀ c, N2 c → H1 c = none := fun c hc => by
      rcases f2 c hc with rfl | z
      · exact b1
      · exact upd_none (upd_none z)
    refine ⟨(by show 2 ≤ sizeLine; decide), fun L1 hL1 => ?_⟩
    have s3 := same_new (o := .lst [.ref t1, .ref t2]) hL1
    have e3 : (upd H2 L1 (.lst [.ref t1, .ref t2])) L1 = some (.lst [.ref t1, .ref t2]) := upd_same
    generalize upd H2 L1 (.lst [.ref t1, .ref t2]) = H3 at *
    intro u1 du1 c1 c2 c3
    refine ⟨u1, du1, rfl, upd_same, fun H4 M1 w1 k4 f4 => ⟨rfl, ?_⟩⟩
    have s4 : Same H3 H4 := Lf.made_same c1 c2 k4
    have f4 : ∀ c, M1 c → H3 c = none := fun c hc => upd_none (upd_none (f4 c hc))
    intro u2 du2 d1 d2 d3
    refine ⟨u2, du2, rfl, upd_same, fun H5 M2 w2 k5 f5 => ⟨rfl, ?_⟩⟩
    have s5 : Same H4 H5 := Lf.made_same d1 d2 k5
    have f5 : ∀ c, M2 c → H4 c = none := fun c hc => upd_none (upd_none (f5 c hc))
    refine ⟨(by show 2 ≤ sizeLine; decide), fun L2 hL2 => ?_⟩
    have s6 := same_new (o := .lst [.ref u1, .ref u2]) hL2
    have e6 : (upd H5 L2 (.lst [.ref u1, .ref u2])) L2 = some (.lst [.ref u1, .ref u2]) := upd_same
    generalize upd H5 L2 (.lst [.ref u1, .ref u2]) = H6 at *
    have v0 : ∃ x1 x2 : Pa, Inv CT CO CL H H6 L1 L2 [x1, x2] ∧ x1.n = 1 ∧ x2.n = 1 := by
      have g1 := w1.tr.ex
      obtain ⟨_, _, _, _, _, gu1, _⟩ := w1.tr.ex
      obtain ⟨_, _, _, _, _, gu2, _⟩ := w2.tr.ex
      refine ⟨⟨t1, u1, fun c => N1 c ∧ H1 c ≠ none, fun c => M1 c ∧ ∃ ys, H4 c = some (.lst ys), 1, [0, 1], [0, 512], 0, []⟩, ⟨t2, u2, fun c => N2 c ∧ H2 c ≠ none, fun c => M2 c ∧ ∃ ys, H5 c = some (.lst ys), 1, [0, 1], [0, 512], 0, []⟩, ?_, rfl, rfl⟩
      generalize hx1 : Pa.mk t1 u1 (fun c => N1 c ∧ H1 c ≠ none) (fun c => M1 c ∧ ∃ ys, H4 c = some (.lst ys)) 1 [0, 1] [0, 512] 0 [] = x1
      generalize hx2 : Pa.mk t2 u2 (fun c => N2 c ∧ H2 c ≠ none) (fun c => M2 c ∧ ∃ ys, H5 c = some (.lst ys)) 1 [0, 1] [0, 512] 0 [] = x2
      have s26 := (((s2.trans s3).trans s4).trans s5).trans s6
      have s36 := ((s3.trans s4).trans s5).trans s6
      have q1 : ∀ c, x1.R c → H c = none ∧ (H1 c ≠ none ∨ (H3 c = none ∧ H4 c ≠ none)) := fun c h => by
        rw [← hx1] at h
        rcases h with h | h | h
        · exact ⟨f1 c h.1, .inl h.2⟩
        · obtain ⟨h0, ys, e⟩ := h
          exact ⟨none_of' ((s1.trans s2).trans s3) (f4 c h0), .inr ⟨f4 c h0, by rw [e]; simp⟩⟩
        · replace h : c = u1 := h
          exact ⟨none_of' ((s1.trans s2).trans s3) (h ▸ c1), .inr ⟨h ▸ c1, by rw [h, gu1]; simp⟩⟩
      have q2 : ∀ c, x2.R c → H1 c = none ∧ (H2 c ≠ none ∨ (H4 c = none ∧ H5 c ≠ none)) := fun c h => by
        rw [← hx2] at h
        rcases h with h | h | h
        · exact ⟨f2 c h.1, .inl h.2⟩
        · obtain ⟨h0, ys, e⟩ := h
          exact ⟨none_of' ((s2.trans s3).trans s4) (f5 c h0), .inr ⟨f5 c h0, by rw [e]; simp⟩⟩
        · replace h : c = u2 := h
          exact ⟨none_of' ((s2.trans s3).trans s4) (h ▸ d1), .inr ⟨h ▸ d1, by rw [h, gu2]; simp⟩⟩
      have out : ∀ c, x1.R c → ¬ x2.R c := fun c h1 h2 => by
        obtain ⟨_, h1⟩ := q1 c h1
        obtain ⟨h0, h2⟩ := q2 c h2
        rcases h1 with h1 | ⟨h1, h1'⟩
        · exact h1 h0
        · rcases h2 with h2 | ⟨h2, _⟩
          · exact ne_keep s3 h2 h1
          · exact h1' h2
      refine ⟨((((s1.trans s2).trans s3).trans s4).trans s5).trans s6, ?_, ?_, none_of' (s1.trans s2) hL1, none_of' ((((s1.trans s2).trans s3).trans s4).trans s5) hL2, fun x hx => ?_, fun x hx c hc => ?_, fun i j x y hne hi hj c h1 h2 => ?_⟩
      · rw [← hx1, ← hx2]
        exact s6 _ _ (s5 _ _ (s4 _ _ e3))
      · rw [← hx1, ← hx2]
        exact e6
      · simp only [List.mem_cons, List.not_mem_nil, or_false] at hx
        rcases hx with rfl | rfl
        · rw [← hx1]
          exact ⟨⟨(r1.sub fun c hc h => ⟨h, hc⟩).same s26, w1.cutL.same (s5.trans s6), Fits.start, by show 1 ≤ 64; decide⟩, fun c h1 h2 => ne_keep (s2.trans s3) h1.2 (h2.elim (fun h => f4 c h.1) fun h => h ▸ c1), fun c h => ne_keep s26 h.2, fun c h => h.2.elim fun ys e => ⟨ys, s6 _ _ (s5 _ _ e)⟩⟩
        · rw [← hx2]
          exact ⟨⟨(r2.sub fun c hc h => ⟨h, hc⟩).same s36, w2.cutL.same s6, Fits.start, by show 1 ≤ 64; decide⟩, fun c h1 h2 => ne_keep (s3.trans s4) h1.2 (h2.elim (fun h => f5 c h.1) fun h => h ▸ d1), fun c h => ne_keep s36 h.2, fun c h => h.2.elim fun ys e => ⟨ys, s6 _ _ e⟩⟩
      · simp only [List.mem_cons, List.not_mem_nil, or_false] at hx
        rcases hx with rfl | rfl
        · obtain ⟨z0, z⟩ := q1 c hc
          refine ⟨z0, fun e => ?_, fun e => ?_⟩
          · rcases z with z | ⟨z, _⟩
            · exact ne_keep s2 z (e ▸ hL1)
            · rw [e, e3] at z
              cases z
          · rcases z with z | ⟨_, z⟩
            · exact ne_keep (((s2.trans s3).trans s4).trans s5) z (e ▸ hL2)
            · exact ne_keep s5 z (e ▸ hL2)
        · obtain ⟨z0, z⟩ := q2 c hc
          refine ⟨none_of' s1 z0, fun e => ?_, fun e => ?_⟩
          · rcases z with z | ⟨z, _⟩
            · exact z (e ▸ hL1)
            · rw [e, s4 _ _ e3] at z
              cases z
          · rcases z with z | ⟨_, z⟩
            · exact ne_keep ((s3.trans s4).trans s5) z (e ▸ hL2)
            · exact z (e ▸ hL2)
      · match i, j, hi, hj with
        | 0, 0, _, _ => exact hne rfl
        | 0, 1, hi, hj =>
          cases hi
          cases hj
          exact out c h1 h2
        | 1, 0, hi, hj =>
          cases hi
          cases hj
          exact out c h2 h1
        | 1, 1, _, _ => exact hne rfl
        | 0, j + 2, _, hj => simp at hj
        | 1, j + 2, _, hj => simp at hj
        | i + 2, _, hi, _ => simp at hi
    clear k1 k2 k4 k5 r1 r2 w1 w2 f1 f2 f4 f5 s1 s2 s3 s4 s5 s6 e3 e6 hL1 hL2
    obtain ⟨x1, x2, v0, m1, m2⟩ := v0
    refine ⟨_, rfl, .ref a, _, rfl, .inl ⟨_, v0.sm.seq hS, rfl⟩, _, _, rfl, _, _, rfl, _, rfl, ?_, ?_, ?_⟩
    · split <;> split <;> omega
    · split <;> split <;> omega
    refine for_range (lo := 0) (fun k σ H' => ∃ (xs : List Pa) (y3 y4 y5 y6 y7 y8 y9 y10 y11 y12 y13 : Option V), σ = [some (.ref a), some (.ref L1), some (.ref L2), y3, y4, y5, y6, y7, y8, y9, y10, y11, y12, y13] ∧ Inv CT CO CL H H' L1 L2 xs ∧ xs.length = 2 ∧ (∀ x, x ∈ xs → x.n ≤ k + 1) ∧ k ≤ 40)
      ⟨[x1, x2], none, none, none, none, none, none, none, none, none, none, none, rfl, v0, rfl, fun x hx => by
        simp only [List.mem_cons, List.not_mem_nil, or_false] at hx
        rcases hx with rfl | rfl <;> omega, by omega⟩ (fun k σ H7 hk hP => ?_) (fun σ H7 hP => ?_)
    · obtain ⟨xs, y3, y4, y5, y6, y7, y8, y9, y10, y11, y12, y13, rfl, v7, l7, n7, _⟩ := hP
      have hk40 : k < 40 := by
        revert hk
        split <;> split <;> omega
      refine ⟨_, rfl, _, rfl, a, ns, _, rfl, v7.sm.seq hS, hl, by omega, fun z => ⟨z, rfl, fun b H8 hb hB kb => ?_⟩⟩
      have fb : H b = none := none_of' v7.sm hb
      have s78 : Same H7 H8 := fun c u z => by rw [kb c (ne_of_none z hb)]; exact z
      have nb : ∀ x, x ∈ xs → ¬ x.R b := fun x hx h => (v7.at_ x hx).alR b h hb
      have v8 := v7.same s78
      refine ⟨_, rfl, b, 4, 0, rfl, hB, by decide, by decide, by decide, fun at0 H9 a0 a1 hB9 k9 => ?_⟩
      have v9 := v8.kb hB fb nb (Kb.of k9)
      refine ⟨rfl, .inr ⟨_, rfl, ?_⟩⟩
      obtain ⟨j, hj2, ej⟩ : ∃ j : Nat, j < 2 ∧ (if (decide (V.int at0 = V.int 0)) = true then (1 : Int) else 0) = (j : Int) := by
        split
        · exact ⟨1, by omega, rfl⟩
        · exact ⟨0, by omega, rfl⟩
      rw [ej]
      refine ⟨_, rfl, b, 3, 0 + 1, rfl, hB9, by decide, by decide, by decide, fun wy H10 w0 w1 hB10 k10 => ?_⟩
      have v10 := v9.kb hB9 fb nb (Kb.of k10)
      refine ⟨_, rfl, b, 4, 0 + 1 + 1, rfl, hB10, by decide, by decide, by decide, fun cp H11 c0 c1 hB11 k11 => ⟨rfl, ?_⟩⟩
      have v11 := v10.kb hB10 fb nb (Kb.of k11)
      generalize decide (V.int cp = V.int 0) = cpb
      obtain ⟨x, hx⟩ : ∃ x, xs[j]? = some x := ⟨_, List.getElem?_eq_getElem (by omega)⟩
      have hxm := List.mem_of_getElem? hx
      have a11 := v11.at_ x hxm
      have xn := n7 x hxm
      have ff := a11.pr.fit
      have cn := ff.cnt
      have atT : atI (xs.map fun x => V.ref x.t) ((j : Nat) : Int) = some (.ref x.t) := atI_nat (by rw [List.getElem?_map, hx]; rfl)
      have atU : atI (xs.map fun x => V.ref x.u) ((j : Nat) : Int) = some (.ref x.u) := atI_nat (by rw [List.getElem?_map, hx]; rfl)
      obtain ⟨du, o, d, nn, fu, g1, g2, g3, g4, gnl, _⟩ := a11.pr.tree.tr.ex
      refine ⟨_, rfl, _, rfl, L2, _, _, .ref x.u, rfl, rfl, SqL.of v11.l2, atU, x.u, du, fu, rfl, g1, gnl _ (by decide), x.u, x.ow, _, rfl, a11.pr.tree.tr, ?_⟩
      rw [← cn]
      refine ⟨_, rfl, _, rfl, b, (x.n : Nat), 0 + 1 + 1 + 1, rfl, hB11, by decide, by omega, by omega, fun e0 H12 p0 p1 hB12 k12 => ?_⟩
      have v12 := v11.kb hB11 fb nb (Kb.of k12)
      refine ⟨_, rfl, _, _, rfl, rfl, _, rfl, b, 3, 0 + 1 + 1 + 1 + 1, rfl, hB12, by decide, by decide, by decide, fun e1 H13 q0 q1 hB13 k13 => ?_⟩
      have v13 := v12.kb hB12 fb nb (Kb.of k13)
      refine ⟨_, _, rfl, rfl, _, _, rfl, (by show 3 ≤ sizeLine; decide), fun l hl => ?_⟩
      have s14 := same_new (o := .lst [.int e0, V.int (if ((x.n : Nat) : Int) - 1 - e1 > 0 then ((x.n : Nat) : Int) - 1 - e1 else 0), .int 0]) hl
      have e14 : (upd H13 l (.lst [.int e0, V.int (if ((x.n : Nat) : Int) - 1 - e1 > 0 then ((x.n : Nat) : Int) - 1 - e1 else 0), .int 0])) l = some (.lst [.int e0, V.int (if ((x.n : Nat) : Int) - 1 - e1 > 0 then ((x.n : Nat) : Int) - 1 - e1 else 0), .int 0]) := upd_same
      generalize upd H13 l (.lst [.int e0, V.int (if ((x.n : Nat) : Int) - 1 - e1 > 0 then ((x.n : Nat) : Int) - 1 - e1 else 0), .int 0]) = H14 at *
      obtain ⟨mk, hmk, hat⟩ := pickL [.int e0, V.int (if ((x.n : Nat) : Int) - 1 - e1 > 0 then ((x.n : Nat) : Int) - 1 - e1 else 0), .int 0] w0 (by show wy < ((3 : Nat) : Int); omega)
      refine ⟨_, rfl, l, _, _, mk, rfl, rfl, SqL.of e14, hat, ?_⟩
      obtain ⟨i, rfl, hi⟩ : ∃ i : Nat, mk = num i ∧ i < x.n := by
        simp only [List.mem_cons, List.not_mem_nil, or_false] at hmk
        rcases hmk with rfl | rfl | rfl
        · exact ⟨e0.toNat, by show V.int _ = V.int _; congr 1; omega, by omega⟩
        · exact ⟨(if ((x.n : Nat) : Int) - 1 - e1 > 0 then ((x.n : Nat) : Int) - 1 - e1 else 0).toNat, by show V.int _ = V.int _; congr 1; split <;> omega, by split <;> omega⟩
        · exact ⟨0, rfl, by omega⟩
      have v14 := v13.same s14
      have hB14 := hB13.kp (H' := H14) fun u z => s14 _ _ z
      have a14 := v14.at_ x hxm
      obtain ⟨dx, fs, h1, nl⟩ := a14.pr.tou.ins
      refine ⟨_, rfl, _, rfl, L1, _, _, .ref x.t, rfl, rfl, SqL.of v14.l1, atT, x.t, dx, fs, rfl, h1, nl _ (by decide), _, rfl, x.N, x.t, x.n, x.ms, x.ls, x.ts, i, _, rfl, a14.pr.tou, hi, by omega, ff.at_ (k := 2 * i) (by omega), fun H15 x15 k15 t15 => ?_⟩
      refine ⟨_, rfl, rfl, _, rfl, ?_⟩
      refine ite2 (fun h => absurd h (by simp [num])) (fun _ => ?_)
      have nxL := v14.fr x hxm
      have l2 := k15 _ _ (fun h => (nxL L2 (.inl h)).2.2 rfl) v14.l2
      have w15 : Lf.Lw CL x.M H15 x.u x.ow := a14.pr.tree.kp fun c v h z => k15 c v (fun z' => a14.dis c z' h) z
      replace w15 := w15.cutL
      obtain ⟨du', o', d', nn', fu', g1', g2', g3', g4', gnl', _⟩ := w15.tr.ex
      refine ⟨_, rfl, _, rfl, L2, _, _, .ref x.u, rfl, rfl, SqL.of l2, atU, x.u, du', fu', rfl, g1', gnl' _ (by decide), _, rfl, x.u, x.ow, i, _, rfl, w15, by omega, by omega, fun H16 M' w16 k16 f16 => ?_⟩
      refine ⟨_, rfl, rfl, _, rfl, ?_⟩
      refine ite2 (fun h => absurd h (by simp [num, cn])) (fun _ => ?_)
      have kt16 : KT H15 H16 := fun c ys z => k16 c _ (fun h => by
        obtain ⟨_, zs, e⟩ := h
        rw [e] at z
        cases z) z
      obtain ⟨x', hx'⟩ : ∃ x' : Pa, x' = ⟨x.t, x.u, fun c => x.N c ∧ H15 c ≠ none, fun c => M' c ∧ ∃ ys, H16 c = some (.lst ys), x.n + 1, msG x.ms (x.ms.idxOf (2 * i)), lsG x.ls (x.ms.idxOf (2 * i)), tsG x.ls (x.ms.idxOf (2 * i)) x.ts, x.ow ++ [i]⟩ := ⟨_, rfl⟩
      have keepN : ∀ c v, x.N c ∧ H15 c ≠ none → H15 c = some v → H16 c = some v := fun c v h z => k16 c v (fun h' => a14.dis c h.1 (.inl h'.1)) z
      have a16 : At CT CO CL H16 x' := by
        rw [hx']
        refine ⟨⟨(x15.sub fun c hc h => ⟨h, hc⟩).kp (fun c v h z => keepN c v h z) kt16, w16.cutL, ff.grow hi x15, by show x.n + 1 ≤ 64; omega⟩, fun c h1 h2 => ?_, fun c h => ?_, fun c h => h.2⟩
        · rcases h2 with h2 | h2
          · rcases f16 c h2.1 with h3 | h3
            · exact a14.dis c h1.1 (.inl h3.1)
            · exact h1.2 h3
          · exact a14.dis c h1.1 (.inr h2)
        · obtain ⟨v, hv⟩ := Option.ne_none_iff_exists'.mp h.2
          rw [keepN c v h hv]
          simp
      have frx : ∀ c, x'.R c → x.R c ∨ H14 c = none := fun c h => by
        rw [hx'] at h
        rcases h with h | h | h
        · exact .inl (.inl h.1)
        · rcases f16 c h.1 with h3 | h3
          · exact .inl (.inr (.inl h3.1))
          · by_cases z : x.N c
            · exact .inl (.inl z)
            · right
              cases hc : H14 c with
              | none => rfl
              | some v =>
                rw [k15 c v z hc] at h3
                cases h3
        · exact .inl (.inr (.inr h))
      have k1416 : ∀ c w, ¬ x.R c → H14 c = some w → H16 c = some w := fun c w h z => k16 c w (fun h' => h (.inr (.inl h'.1))) (k15 c w (fun h' => h (.inl h')) z)
      have v16 := v14.step hx (by rw [hx']) (by rw [hx']) a16 frx k1416 (t15.trans kt16)
      have fbN : H14 b ≠ none := (BoxD.some hB14).elim fun u e => by rw [e]; simp
      have nb' : ∀ y, y ∈ xs.set j x' → ¬ y.R b := fun y hy h => by
        rcases mem_set_at hy with rfl | ⟨i', hi', hy⟩
        · rcases frx b h with h | h
          · exact nb x hxm h
          · exact fbN h
        · exact nb y (List.mem_of_getElem? hy) h
      have hB16 := hB14.kp (H' := H16) fun u z => k1416 b u (nb x hxm) z
      have xn' : x'.n = x.n + 1 := by rw [hx']
      have n16 : ∀ y, y ∈ xs.set j x' → y.n ≤ k + 2 := fun y hy => by
        rcases mem_set_at hy with rfl | ⟨i', hi', hy⟩
        · omega
        · have := n7 y (List.mem_of_getElem? hy)
          omega
      have l16 : (xs.set j x').length = 2 := by rw [List.length_set]; exact l7
      have hx16 : (xs.set j x')[j]? = some x' := by rw [List.getElem?_set, if_pos rfl, if_pos (by omega)]
      obtain ⟨ri, hri⟩ : ∃ r, r = x.n := ⟨_, rfl⟩
      rw [← hri]
      rw [← hri] at xn' hi
      clear hx' a16 frx k1416 keepN kt16 w16 k16 f16 w15 l2 nxL x15 k15 t15 h1 nl a14 hat hmk e14 s14 hl v13 v12 v11 v10 v9 v8 v7 v14 g1 g2 g3 g4 gnl g1' g2' g3' g4' gnl' atT atU a11 ff cn hxm hx nb fbN hB14 hB13 hB12 hB11 hB10 hB9 hB s78 kb hb
      generalize xs.set j x' = xs' at *
      revert hB16
      revert hx16
      revert l16
      revert n16
      revert nb'
      revert v16
      revert xs'
      revert H16
      refine' (fun (rest : ∀ (H16 : Hp) (xs' : List Pa), Inv CT CO CL H H16 L1 L2 xs' → (∀ y, y ∈ xs' → ¬ y.R b) → (∀ y, y ∈ xs' → y.n ≤ k + 2) → xs'.length = 2 → xs'[j]? = some x' → BoxD H16 b (0 + 1 + 1 + 1 + 1 + 1) → (_ : Hp → Prop) H16) => ?main) ?rest
      case main =>
        intro H16 xs' v16 nb' n16 l16 hx16 hB16
        refine ⟨_, rfl, _, rfl, ?_⟩
        refine ite2 (fun _ => ?_) (fun _ => ?_)
        rotate_left
        · exact rest H16 xs' v16 nb' n16 l16 hx16 hB16
        · have hm := List.mem_of_getElem? hx16
          have a16 := v16.at_ x' hm
          obtain ⟨dx, fs, h1, nl⟩ := a16.pr.tou.ins
          have atT : atI (xs'.map fun x => V.ref x.t) ((j : Nat) : Int) = some (.ref x'.t) := atI_nat (by rw [List.getElem?_map, hx16]; rfl)
          have atU : atI (xs'.map fun x => V.ref x.u) ((j : Nat) : Int) = some (.ref x'.u) := atI_nat (by rw [List.getElem?_map, hx16]; rfl)
          have ix : ∀ f : Pa → V, ixN (xs'.map f).length (1 - ((j : Nat) : Int)) = some (1 - j) := fun f => by
            rw [List.length_map, l16]
            rcases (by omega : j = 0 ∨ j = 1) with rfl | rfl
            · rfl
            · rfl
          refine ⟨_, rfl, _, rfl, L1, _, _, .ref x'.t, rfl, rfl, SqL.of v16.l1, atT, x'.t, dx, fs, rfl, h1, nl _ (by decide), x'.N, x'.t, x'.n, x'.ms, x'.ls, x'.ts, rfl, a16.pr.tou, fun t' H17 N' nt x17 f17 s17 => ?_⟩
          refine ⟨_, rfl, _, rfl, _, _, rfl, rfl, L1, _, _, 1 - j, rfl, rfl, s17 _ _ v16.l1, ix _, ?_⟩
          have k1718 : ∀ c v, c ≠ L1 → H17 c = some v → (upd H17 L1 (.lst ((xs'.map fun x => V.ref x.t).set (1 - j) (.ref t')))) c = some v := fun c v h z => by
            rw [upd_ne h]
            exact z
          have n1718 : ∀ c, (upd H17 L1 (.lst ((xs'.map fun x => V.ref x.t).set (1 - j) (.ref t')))) c = none → c ≠ L1 ∧ H17 c = none := fun c h => by
            have hc : c ≠ L1 := fun e => by rw [e, upd_same] at h; cases h
            rw [upd_ne hc] at h
            exact ⟨hc, h⟩
          have e18 : (upd H17 L1 (.lst ((xs'.map fun x => V.ref x.t).set (1 - j) (.ref t')))) L1 = some (.lst ((xs'.map fun x => V.ref x.t).set (1 - j) (.ref t'))) := upd_same
          generalize upd H17 L1 (.lst ((xs'.map fun x => V.ref x.t).set (1 - j) (.ref t'))) = H18 at *
          have frx := v16.fr x' hm
          have L12 : L2 ≠ L1 := fun e => by
            have z1 := v16.l1
            have z2 := v16.l2
            rw [e, z1] at z2
            have z3 := congrArg (fun l => l[j]?) (HO.lst.inj (Option.some.inj z2))
            replace z3 : (xs'.map fun x => V.ref x.t)[j]? = (xs'.map fun x => V.ref x.u)[j]? := z3
            rw [List.getElem?_map, List.getElem?_map, hx16] at z3
            have z4 : x'.t = x'.u := V.ref.inj (Option.some.inj z3)
            obtain ⟨_, _, _, _, _, _, _, _, _, _, _, _, _, _, _, Nt, _⟩ := a16.pr.tou.ex
            exact a16.dis _ Nt (.inr z4)
          have l218 := k1718 _ _ L12 (s17 _ _ v16.l2)
          have w18 : Lf.Lw CL x'.M H18 x'.u x'.ow := a16.pr.tree.kp fun c v h z => k1718 c v (frx c (.inr h)).2.1 (s17 _ _ z)
          obtain ⟨du, o, d, nn, fu, g1, g2, g3, g4, gnl, _⟩ := w18.tr.ex
          refine ⟨_, rfl, _, rfl, L2, _, _, .ref x'.u, rfl, rfl, SqL.of l218, atU, x'.u, du, fu, rfl, g1, gnl _ (by decide), x'.u, x'.ow, rfl, w18.tr, fun u' H19 M' nu w19 f19 s19 => ?_⟩
          refine ⟨_, rfl, _, rfl, _, _, rfl, rfl, L2, _, _, 1 - j, rfl, rfl, s19 _ _ l218, ix _, ?_⟩
          have k1920 : ∀ c v, c ≠ L2 → H19 c = some v → (upd H19 L2 (.lst ((xs'.map fun x => V.ref x.u).set (1 - j) (.ref u')))) c = some v := fun c v h z => by
            rw [upd_ne h]
            exact z
          have e20 : (upd H19 L2 (.lst ((xs'.map fun x => V.ref x.u).set (1 - j) (.ref u')))) L2 = some (.lst ((xs'.map fun x => V.ref x.u).set (1 - j) (.ref u'))) := upd_same
          generalize upd H19 L2 (.lst ((xs'.map fun x => V.ref x.u).set (1 - j) (.ref u'))) = H20 at *
          have k1720 : ∀ c v, c ≠ L1 → c ≠ L2 → H17 c = some v → H20 c = some v := fun c v h1 h2 z => k1920 c v h2 (s19 _ _ (k1718 c v h1 z))
          have fr18 : ∀ c, H18 c = none → H16 c = none := fun c h => none_of' s17 (n1718 c h).2
          have nL : ∀ c, H16 c = none → c ≠ L1 ∧ c ≠ L2 := fun c h => ⟨(fun e => by rw [e, v16.l1] at h; cases h), (fun e => by rw [e, v16.l2] at h; cases h)⟩
          have kt : KT H17 H20 := fun c ys z => k1720 c _ (fun e => by rw [e, s17 _ _ v16.l1] at z; cases z) (fun e => by rw [e, s17 _ _ v16.l2] at z; cases z) z
          obtain ⟨x2, hx2⟩ : ∃ x2 : Pa, x2 = ⟨t', u', fun c => N' c ∧ H17 c ≠ none, fun c => M' c ∧ ∃ ys, H19 c = some (.lst ys), x'.n, x'.ms, x'.ls, x'.ts, x'.ow⟩ := ⟨_, rfl⟩
          have a20 : At CT CO CL H20 x2 := by
            rw [hx2]
            refine ⟨⟨(x17.sub fun c hc h => ⟨h, hc⟩).kp (fun c v h z => k1720 c v (nL c (f17 c h.1)).1 (nL c (f17 c h.1)).2 z) kt, w19.cutL.kp fun c v h z => k1920 c v (fun e => ?_) z, a16.pr.fit, a16.pr.few⟩, fun c h1 h2 => ?_, fun c h => ?_, fun c h => ?_⟩
            · rcases h with h | h
              · exact (nL c (fr18 c (f19 c h.1))).2 e
              · exact (nL c (fr18 c (h ▸ nu))).2 e
            · have z : H18 c = none := h2.elim (fun h => f19 c h.1) fun h => by
                replace h : c = u' := h
                rw [h]
                exact nu
              exact h1.2 (n1718 c z).2
            · obtain ⟨v, hv⟩ := Option.ne_none_iff_exists'.mp h.2
              rw [k1720 c v (nL c (f17 c h.1)).1 (nL c (f17 c h.1)).2 hv]
              simp
            · obtain ⟨h1, ys, e⟩ := h
              exact ⟨ys, k1920 c _ (nL c (fr18 c (f19 c h1))).2 e⟩
          have fr2 : ∀ c, x2.R c → H16 c = none := fun c h => by
            rw [hx2] at h
            rcases h with h | h | h
            · exact f17 c h.1
            · exact fr18 c (f19 c h.1)
            · replace h : c = u' := h
              rw [h]
              exact fr18 _ nu
          have k2 : ∀ c w, c ≠ L1 → c ≠ L2 → H16 c = some w → H20 c = some w := fun c w h1 h2 z => k1720 c w h1 h2 (s17 _ _ z)
          have nbx : ∀ y, y ∈ xs'.set (1 - j) x2 → ¬ y.R b := fun y hy h => by
            rcases mem_set_at hy with rfl | ⟨i', hi', hy⟩
            · obtain ⟨v, hv⟩ := hB16.some
              rw [fr2 b h] at hv
              cases hv
            · exact nb' y (List.mem_of_getElem? hy) h
          have bl : ∀ c ys, H16 c = some (.lst ys) → b ≠ c := fun c ys z e => by
            obtain ⟨_, _, _, kvs, h, _⟩ := hB16
            rw [e, z] at h
            cases h
          refine rest H20 (xs'.set (1 - j) x2) (v16.put a20 fr2 k2 ?_ ?_) nbx (fun y hy => ?_) (by rw [List.length_set]; exact l16) (by rw [List.getElem?_set, if_neg (by omega)]; exact hx16) (hB16.kp fun u z => k2 b u (bl _ _ v16.l1) (bl _ _ v16.l2) z)
          · rw [List.map_set, hx2]
            exact k1920 _ _ L12.symm (s19 _ _ e18)
          · rw [List.map_set, hx2]
            exact e20
          · rcases mem_set_at hy with rfl | ⟨i', hi', hy⟩
            · have := n16 x' hm
              rw [hx2]
              exact this
            · exact n16 y (List.mem_of_getElem? hy)
      case rest =>
        intro H16 xs' v16 nb' n16 l16 hx16 hB16
        have hm := List.mem_of_getElem? hx16
        have a16 := v16.at_ x' hm
        have atT : ∀ (k : Nat) (y : Pa), xs'[k]? = some y → atI (xs'.map fun x => V.ref x.t) ((k : Nat) : Int) = some (.ref y.t) := fun k y h => atI_nat (by rw [List.getElem?_map, h]; rfl)
        have atU : ∀ (k : Nat) (y : Pa), xs'[k]? = some y → atI (xs'.map fun x => V.ref x.u) ((k : Nat) : Int) = some (.ref y.u) := fun k y h => atI_nat (by rw [List.getElem?_map, h]; rfl)
        refine ⟨_, rfl, _, rfl, L1, _, _, .ref x'.t, rfl, rfl, SqL.of v16.l1, atT _ _ hx16, _, rfl, _, rfl, L2, _, _, .ref x'.u, rfl, rfl, SqL.of v16.l2, atU _ _ hx16, _, rfl, _, rfl, x'.N, x'.t, x'.u, x'.n, x'.ms, x'.ls, x'.ts, i, ri, x'.ow, rfl, a16.pr.tou, a16.pr.tree.tr, a16.pr.fit, by omega, by omega, a16.pr.few, fun H21 s21 => ⟨_, rfl, iteF ?_⟩⟩
        have v21 := v16.same s21
        have hB21 := hB16.kp (H' := H21) fun u z => s21 _ _ z
        refine ⟨2, rfl, by decide, by decide, ?_⟩
        refine for_range (lo := 0) (n := 2) (fun k' σ H' => ∃ y10 : Option V, σ = [some (.ref a), some (.ref L1), some (.ref L2), some (.int (0 + (k : Nat))), some (.ref b), some (.int (j : Nat)), some (.int wy), some (.bl cpb), some (num ri), some (num i), y10, y11, y12, y13] ∧ Inv CT CO CL H H' L1 L2 xs' ∧ BoxD H' b (5 + 6 * k')) ⟨y10, rfl, v21, hB21.up (by omega)⟩ (fun k' σ H22 hk' hP => ?_) (fun σ H22 hP => ?_)
        · obtain ⟨z10, rfl, v22, hB22⟩ := hP
          obtain ⟨y, hy⟩ : ∃ y, xs'[k']? = some y := ⟨_, List.getElem?_eq_getElem (by omega)⟩
          have hym := List.mem_of_getElem? hy
          have a22 := v22.at_ y hym
          have ez : (0 : Int) + ((k' : Nat) : Int) = ((k' : Nat) : Int) := by omega
          refine ⟨_, rfl, _, rfl, _, rfl, L1, _, _, .ref y.t, rfl, rfl, SqL.of v22.l1, (by rw [ez]; exact atT _ _ hy), _, rfl, _, rfl, L2, _, _, .ref y.u, rfl, rfl, SqL.of v22.l2, (by rw [ez]; exact atU _ _ hy), y.N, y.M, b, y.t, y.u, y.n, y.ms, y.ls, y.ts, y.ow, _, rfl, hB22, by omega, a22.pr, (fun h => nb' y hym (.inl h)), (fun h => nb' y hym (.inr (.inl h))), fun H23 hB23 k23 => ⟨_, rfl, iteF ?_⟩⟩
          exact ⟨_, rfl, v22.kb hB22 fb nb' k23, hB23.up (by omega)⟩
        · obtain ⟨z10, rfl, v22, hB22⟩ := hP
          exact ⟨xs', _, _, _, _, _, _, _, _, _, _, _, rfl, v22, l16, n16, by omega⟩
    · obtain ⟨xs, y3, y4, y5, y6, y7, y8, y9, y10, y11, y12, y13, rfl, v7, l7, n7, _⟩ := hP
      refine ⟨_, rfl, _, rfl, L1, L2, _, _, rfl, SqL.of v7.l1, SqL.of v7.l2, ?_⟩
      refine for_it (walk_zip (K := K) (a := L1) (b := L2) (xs := xs.map fun x => V.ref x.t) (ys := xs.map fun x => V.ref x.u) rfl) (fun i σ H' => ∃ y9 y10 y11 y12 y13 : Option V, σ = [some (.ref a), some (.ref L1), some (.ref L2), y3, y4, y5, y6, y7, y8, y9, y10, y11, y12, y13] ∧ Inv CT CO CL H H' L1 L2 xs)
        ⟨y9, y10, y11, y12, y13, rfl, v7⟩ (fun i σ H' _ hP => ?_) (fun i z σ H1 H2 hi hP hY => ?_) (fun σ H' hP => ?_)
      · obtain ⟨_, _, _, _, _, _, v⟩ := hP
        exact ⟨SqL.of v.l1, SqL.of v.l2⟩
      · obtain ⟨y9, y10, y11, y12, y13, rfl, v1⟩ := hP
        obtain ⟨Tp, w1, w2, rfl, hT, rfl, hu, hv⟩ := hY
        replace hu : (xs.map fun x => V.ref x.t)[i]? = some w1 := hu
        replace hv : (xs.map fun x => V.ref x.u)[i]? = some w2 := hv
        rw [List.getElem?_map] at hu hv
        obtain ⟨x, hx, rfl⟩ := Option.map_eq_some_iff.mp hu
        rw [hx] at hv
        cases (show some (V.ref x.u) = some w2 from hv)
        have s2 := same_new (o := .tup [V.ref x.t, V.ref x.u]) hT
        have eT : (upd H1 Tp (.tup [V.ref x.t, V.ref x.u])) Tp = some (.tup [V.ref x.t, V.ref x.u]) := upd_same
        generalize upd H1 Tp (.tup [V.ref x.t, V.ref x.u]) = H2 at *
        have v2 := v1.same s2
        have hxm := List.mem_of_getElem? hx
        have a2 := v2.at_ x hxm
        obtain ⟨du, o, d, nn, fu, g1, g2, g3, g4, gnl, _⟩ := a2.pr.tree.tr.ex
        have cn := a2.pr.fit.cnt
        have few := a2.pr.few
        refine ⟨Tp, _, rfl, SqT.of eT, rfl, _, _, rfl, _, _, rfl, rfl, ?_⟩
        refine ⟨_, rfl, x.u, du, fu, rfl, g1, gnl _ (by decide), x.u, x.ow, _, rfl, a2.pr.tree.tr, _, rfl, by omega, by omega, ?_⟩
        rw [← cn]
        refine for_range (lo := 0) (n := x.n) (fun k σ H' => ∃ y9 y10 y13 : Option V, σ = [some (.ref a), some (.ref L1), some (.ref L2), y3, y4, y5, y6, y7, y8, y9, y10, some (.ref x.t), some (.ref x.u), y13] ∧ Inv CT CO CL H H' L1 L2 xs)
          ⟨y9, y10, y13, rfl, v2⟩ (fun k σ H3 hk hP => ?_) (fun σ H3 hP => ?_)
        · obtain ⟨y9, y10, y13, rfl, v3⟩ := hP
          have ek : V.int (0 + ((k : Nat) : Int)) = num k := by
            show V.int _ = V.int _
            rw [Int.zero_add]
          rw [ek]
          have a3 := v3.at_ x hxm
          obtain ⟨du, o, d, nn, fu, g1, g2, g3, g4, gnl, _⟩ := a3.pr.tree.tr.ex
          have ex : (fun i : Nat => V.int (0 + ((i : Nat) : Int))) = num := by
            funext i
            show V.int _ = V.int _
            rw [Int.zero_add]
          refine ⟨_, rfl, x.u, du, fu, rfl, g1, gnl _ (by decide), x.u, x.ow, _, rfl, a3.pr.tree.tr, _, rfl, by omega, by omega, fun B hB => ?_⟩
          rw [Int.toNat_natCast, ← cn]
          refine lc_it (walk_range (lo := 0) (n := x.n)) (fun m H' => Same H3 H' ∧ H' B = some (.lst (((List.range m).filter fun m => decide (k ∈ Lf.line x.ow m)).map num))) ⟨same_new hB, upd_same⟩ (fun _ _ _ _ => True.intro) (fun m z H4 H5 hm hP hY => ?_) (fun H4 hP => ?_)
          · obtain ⟨s4, eB⟩ := hP
            obtain ⟨rfl, rfl⟩ := hY
            rw [ex]
            refine ⟨rfl, ?_⟩
            refine ⟨_, rfl, _, rfl, x.u, du, fu, rfl, s4 _ _ g1, gnl _ (by decide), _, rfl, x.u, x.ow, _, m, rfl, a3.pr.tree.tr.same s4, by omega, fun p H6 np s6 ep => ⟨p, _, rfl, .inl (SqL.of ep), rfl, flat_nums _, _, rfl, ?_⟩⟩
            have lf := List.length_filter_le (fun m => decide (k ∈ Lf.line x.ow m)) (List.range m)
            rw [List.length_range] at lf
            have eB6 := s6 _ _ eB
            refine ite2 (fun hc => ?_) (fun hc => ?_)
            · have hc' : decide (k ∈ Lf.line x.ow m) = true := by simpa [inV_nums] using hc
              refine ⟨_, rfl, _, eB6, ?_, fun c u z => ?_, ?_⟩
              · rw [List.length_map]
                exact small1000 (by omega)
              · rw [upd_ne (ne_of_none z hB)]
                exact s6 _ _ (s4 c u z)
              · rw [upd_same, List.range_succ, List.filter_append, List.filter_cons_of_pos (p := fun m => decide (k ∈ Lf.line x.ow m)) hc', List.filter_nil, List.map_append]
                rfl
            · have hc' : ¬ decide (k ∈ Lf.line x.ow m) = true := by simpa [inV_nums] using hc
              refine ⟨s4.trans s6, ?_⟩
              rw [List.range_succ, List.filter_append, List.filter_cons_of_neg (p := fun m => decide (k ∈ Lf.line x.ow m)) hc', List.filter_nil, List.append_nil]
              exact eB6
          · obtain ⟨s4, eB⟩ := hP
            have v4 := v3.same s4
            have a4 := v4.at_ x hxm
            obtain ⟨dx, fs, h1, nl⟩ := a4.pr.tou.ins
            refine ⟨_, rfl, (by show 1 ≤ sizeLine; decide), fun p1 hp1 => ?_⟩
            have s5 := same_new (o := .lst [num k]) hp1
            have e5 : (upd H4 p1 (.lst [num k])) p1 = some (.lst [num k]) := upd_same
            generalize upd H4 p1 (.lst [num k]) = H5 at *
            refine ⟨_, rfl, x.t, dx, fs, rfl, s5 _ _ h1, nl _ (by decide), _, rfl, x.N, x.t, x.n, x.ms, x.ls, x.ts, k, rfl, a4.pr.tou.same s5, hk, few, fun p2 H6 np s6 e6 => ?_⟩
            have lb := byL_len 0 x.ms
            have lf := List.length_filter_le (insB x.ms k) (byL 0 x.ms)
            have ln := a4.pr.fit.len
            refine ⟨p1, p2, _, _, rfl, rfl, s6 _ _ e5, e6, Nat.le_trans (m := 200) (by rw [List.length_map]; show 1 + _ ≤ 200; omega) (by decide), fun p3 hp3 => ?_⟩
            have s7 := same_new (o := .lst ([num k] ++ ((byL 0 x.ms).filter (insB x.ms k)).map num)) hp3
            have e7 : (upd H6 p3 (.lst ([num k] ++ ((byL 0 x.ms).filter (insB x.ms k)).map num))) p3 = some (.lst ((k :: (byL 0 x.ms).filter (insB x.ms k)).map num)) := upd_same
            generalize upd H6 p3 (.lst ([num k] ++ ((byL 0 x.ms).filter (insB x.ms k)).map num)) = H7 at *
            refine ⟨p3, _, rfl, SqL.of (by rw [e7, nums_int]), fun n1 p4 pm1 pw1 hp4 => ?_⟩
            have s8 := same_new (o := .lst (n1.map V.int)) hp4
            have e8 : (upd H7 p4 (.lst (n1.map V.int))) p4 = some (.lst (n1.map V.int)) := upd_same
            generalize upd H7 p4 (.lst (n1.map V.int)) = H8 at *
            have s48 := ((s5.trans s6).trans s7).trans s8
            have en := sorted_same pm1 pw1 (List.Perm.refl _) (range_up x.n fun m => decide (k ∈ Lf.line x.ow m)) (a4.pr.fit.due hk)
            have eB8 := s48 _ _ eB
            rw [nums_int, ← en] at eB8
            refine ⟨_, rfl, .list (n1.map PyData.int), .list (n1.map PyData.int), .lst (SqL.of e8) (intsD _), .lst (SqL.of eB8) (intsD _), sh_ints _, sh_ints _, _, rfl, ?_⟩
            rw [PySem.SeqAt.eqv_refl _ (can_ints _)]
            exact iteF ⟨_, _, _, rfl, v4.same s48⟩
        · obtain ⟨y9, y10, y13, rfl, v3⟩ := hP
          exact ⟨_, _, _, _, _, rfl, v3⟩
      · exact q _
end
end K18
set_option maxHeartbeats 0
namespace K18
open PySem PySem.Spec PyProof.Rows L2 Gd Gs Ge
open C8 (clsBody Met)
theorem x_of_o {q : Program} {loose : List Str} {XP : (Str → Option Value) → Heap → Prop} {K : Params → PySem.W.Frag} {as : List Addr} {n t : Nat} {r : PySem.W.RowW} {d : DefRec} {kwd : List (Str × Expr)} {run : Value → List Value → Sem Value}
    (e : ∀ P, as = (K P).map (·.1)) (h : PySem.W.WalkO q loose XP (PySem.W.InK K) r d kwd run) : PySem.W.WalkX q loose XP (PySem.W.X.obsZ as) (PySem.W.X.valZ K n t) r d kwd run :=
  fun w s₀ s₁ mg mb G Y a o pm cd doc dV kV h2 h3 h4 h5 h6 h7 args vals as' L hpre hlay hrd hwl hlo => h w s₀ s₁ mg mb G (PySem.W.InK.keeps w _ _ (PySem.W.X.z_facts e Y).2.1 L.keeps) a o pm cd doc dV kV h2 h3 h4 h5 h6 h7 args vals as' hpre hlay hrd hwl hlo
theorem keep_fn {K : PySem.W.Frag} {f : Addr} {oc : Value} {od : Option Addr} {fd : FuncData} {sl : Array (Option Value)} (e : K.lookup f = some ⟨oc, od, .func fd, sl⟩) : PySem.W.keepIn K (.ref f) = true := by
  unfold PySem.W.keepIn
  simp only [e]
theorem type_fn {K : PySem.W.Frag} {f : Addr} {oc : Value} {od : Option Addr} {d : Data} {sl : Array (Option Value)} (e : K.lookup f = some ⟨oc, od, d, sl⟩) : PySem.W.typeIn K (.ref f) = some oc := by
  show (K.lookup f).map (·.cls) = some oc
  rw [e]
  rfl
theorem isFn_fn {K : PySem.W.Frag} {f : Addr} {od : Option Addr} {d : Data} {sl : Array (Option Value)} (e : K.lookup f = some ⟨.type "function", od, d, sl⟩) : PySem.W.isFn K (.ref f) = true := by
  unfold PySem.W.isFn
  rw [type_fn e]
  simp
theorem fnIn_fn {K : PySem.W.Frag} {f : Addr} {oc : Value} {od : Option Addr} {fd : FuncData} {sl : Array (Option Value)} (e : K.lookup f = some ⟨oc, od, .func fd, sl⟩) : PySem.W.fnIn K f = true := by
  unfold PySem.W.fnIn
  simp only [e]
theorem exm_above {K : PySem.W.Frag} {S M : Addr} (up : PySem.W.subIn K (.ref S) (.ref M) = some true) (isC : PySem.W.isClsIn K M = true) (meta_ : PySem.W.typeIn K (.ref M) = some (.type "type"))
    (exc : PySem.W.subIn K (.ref M) (.type "BaseException") = some true) : PySem.W.exmOne K (.ref S) (.ref M) = some true := by
  unfold PySem.W.isClsIn at isC
  simp [PySem.W.exmOne, PySem.W.kitCls, exc, meta_, isC, up]
theorem kit_self {K : PySem.W.Frag} {S : Addr} : PySem.W.kitOne K (.ref S) (.ref S) = some true := by
  simp [PySem.W.kitOne]
theorem exm_self {K : PySem.W.Frag} {S : Addr} (isC : PySem.W.isClsIn K S = true) (meta_ : PySem.W.typeIn K (.ref S) = some (.type "type"))
    (exc : PySem.W.subIn K (.ref S) (.type "BaseException") = some true) (m : PySem.W.subIn K (.ref S) (.ref S) = some true) : PySem.W.exmOne K (.ref S) (.ref S) = some true := by
  unfold PySem.W.isClsIn at isC
  simp [PySem.W.exmOne, PySem.W.kitCls, exc, meta_, isC, m]
theorem all_mk {l : PySem.W.OpenLaw} {w : World} {K : PySem.W.Frag} {h : Heap} {mg : Str → Option Value} {fa : Addr} (X : K.In h) (G : h.Ns mainGlobals mg) (hfa : mg "law" = some (.ref fa))
    {f0 : Addr}
    {od0 an0 : Option Addr}
    {sl0 : Array (Option Value)}
    {kV0 dc0 pm0 cd0 ct0 : Value}
    {f1 : Addr}
    {od1 an1 : Option Addr}
    {sl1 : Array (Option Value)}
    {kV1 dc1 pm1 cd1 ct1 : Value}
    {f2 : Addr}
    {od2 an2 : Option Addr}
    {sl2 : Array (Option Value)}
    {kV2 dc2 pm2 cd2 ct2 : Value}
    {f3 : Addr}
    {od3 an3 : Option Addr}
    {sl3 : Array (Option Value)}
    {kV3 dc3 pm3 cd3 ct3 : Value}
    {f4 : Addr}
    {od4 an4 : Option Addr}
    {sl4 : Array (Option Value)}
    {kV4 dc4 pm4 cd4 ct4 : Value}
    {f5 : Addr}
    {od5 an5 : Option Addr}
    {sl5 : Array (Option Value)}
    {kV5 dc5 pm5 cd5 ct5 : Value}
    {f6 : Addr}
    {od6 an6 : Option Addr}
    {sl6 : Array (Option Value)}
    {kV6 dc6 pm6 cd6 ct6 : Value}
    {f7 : Addr}
    {od7 an7 : Option Addr}
    {sl7 : Array (Option Value)}
    {kV7 dc7 pm7 cd7 ct7 : Value}
    {f8 : Addr}
    {od8 an8 : Option Addr}
    {sl8 : Array (Option Value)}
    {kV8 dc8 pm8 cd8 ct8 : Value}
    {t_MOST_MARKS : Tok}
    {t_LABELS : Tok}
    {t_MOST_MAKES : Tok}
    {CO : Addr}
    {f_CO_many : Addr}
    {od_CO_many an_CO_many : Option Addr}
    {sl_CO_many : Array (Option Value)}
    {kV_CO_many dc_CO_many pm_CO_many cd_CO_many ct_CO_many : Value}
    {f_CO_need_mark : Addr}
    {od_CO_need_mark an_CO_need_mark : Option Addr}
    {sl_CO_need_mark : Array (Option Value)}
    {kV_CO_need_mark dc_CO_need_mark pm_CO_need_mark cd_CO_need_mark ct_CO_need_mark : Value}
    {f_CO_label : Addr}
    {od_CO_label an_CO_label : Option Addr}
    {sl_CO_label : Array (Option Value)}
    {kV_CO_label dc_CO_label pm_CO_label cd_CO_label ct_CO_label : Value}
    {f_CO_ahead : Addr}
    {od_CO_ahead an_CO_ahead : Option Addr}
    {sl_CO_ahead : Array (Option Value)}
    {kV_CO_ahead dc_CO_ahead pm_CO_ahead cd_CO_ahead ct_CO_ahead : Value}
    {f_CO_label_at : Addr}
    {od_CO_label_at an_CO_label_at : Option Addr}
    {sl_CO_label_at : Array (Option Value)}
    {kV_CO_label_at dc_CO_label_at pm_CO_label_at cd_CO_label_at ct_CO_label_at : Value}
    {f_CO_marks : Addr}
    {od_CO_marks an_CO_marks : Option Addr}
    {sl_CO_marks : Array (Option Value)}
    {kV_CO_marks dc_CO_marks pm_CO_marks cd_CO_marks ct_CO_marks : Value}
    {f_CO_label_anew : Addr}
    {od_CO_label_anew an_CO_label_anew : Option Addr}
    {sl_CO_label_anew : Array (Option Value)}
    {kV_CO_label_anew dc_CO_label_anew pm_CO_label_anew cd_CO_label_anew ct_CO_label_anew : Value}
    {f_CO_behind : Addr}
    {od_CO_behind an_CO_behind : Option Addr}
    {sl_CO_behind : Array (Option Value)}
    {kV_CO_behind dc_CO_behind pm_CO_behind cd_CO_behind ct_CO_behind : Value}
    {f_CO_copied : Addr}
    {od_CO_copied an_CO_copied : Option Addr}
    {sl_CO_copied : Array (Option Value)}
    {kV_CO_copied dc_CO_copied pm_CO_copied cd_CO_copied ct_CO_copied : Value}
    {f_CO_init : Addr}
    {od_CO_init an_CO_init : Option Addr}
    {sl_CO_init : Array (Option Value)}
    {kV_CO_init dc_CO_init pm_CO_init cd_CO_init ct_CO_init : Value}
    {CT : Addr}
    {f_CT_many : Addr}
    {od_CT_many an_CT_many : Option Addr}
    {sl_CT_many : Array (Option Value)}
    {kV_CT_many dc_CT_many pm_CT_many cd_CT_many ct_CT_many : Value}
    {f_CT_need_make : Addr}
    {od_CT_need_make an_CT_need_make : Option Addr}
    {sl_CT_need_make : Array (Option Value)}
    {kV_CT_need_make dc_CT_need_make pm_CT_need_make cd_CT_need_make ct_CT_need_make : Value}
    {f_CT_grow : Addr}
    {od_CT_grow an_CT_grow : Option Addr}
    {sl_CT_grow : Array (Option Value)}
    {kV_CT_grow dc_CT_grow pm_CT_grow cd_CT_grow ct_CT_grow : Value}
    {f_CT_marks_of : Addr}
    {od_CT_marks_of an_CT_marks_of : Option Addr}
    {sl_CT_marks_of : Array (Option Value)}
    {kV_CT_marks_of dc_CT_marks_of pm_CT_marks_of cd_CT_marks_of ct_CT_marks_of : Value}
    {f_CT_order : Addr}
    {od_CT_order an_CT_order : Option Addr}
    {sl_CT_order : Array (Option Value)}
    {kV_CT_order dc_CT_order pm_CT_order cd_CT_order ct_CT_order : Value}
    {f_CT_makes_by : Addr}
    {od_CT_makes_by an_CT_makes_by : Option Addr}
    {sl_CT_makes_by : Array (Option Value)}
    {kV_CT_makes_by dc_CT_makes_by pm_CT_makes_by cd_CT_makes_by ct_CT_makes_by : Value}
    {f_CT_coming : Addr}
    {od_CT_coming an_CT_coming : Option Addr}
    {sl_CT_coming : Array (Option Value)}
    {kV_CT_coming dc_CT_coming pm_CT_coming cd_CT_coming ct_CT_coming : Value}
    {f_CT_leaving : Addr}
    {od_CT_leaving an_CT_leaving : Option Addr}
    {sl_CT_leaving : Array (Option Value)}
    {kV_CT_leaving dc_CT_leaving pm_CT_leaving cd_CT_leaving ct_CT_leaving : Value}
    {f_CT_is_beneath : Addr}
    {od_CT_is_beneath an_CT_is_beneath : Option Addr}
    {sl_CT_is_beneath : Array (Option Value)}
    {kV_CT_is_beneath dc_CT_is_beneath pm_CT_is_beneath cd_CT_is_beneath ct_CT_is_beneath : Value}
    {f_CT_within : Addr}
    {od_CT_within an_CT_within : Option Addr}
    {sl_CT_within : Array (Option Value)}
    {kV_CT_within dc_CT_within pm_CT_within cd_CT_within ct_CT_within : Value}
    {f_CT_beneath : Addr}
    {od_CT_beneath an_CT_beneath : Option Addr}
    {sl_CT_beneath : Array (Option Value)}
    {kV_CT_beneath dc_CT_beneath pm_CT_beneath cd_CT_beneath ct_CT_beneath : Value}
    {f_CT_copied : Addr}
    {od_CT_copied an_CT_copied : Option Addr}
    {sl_CT_copied : Array (Option Value)}
    {kV_CT_copied dc_CT_copied pm_CT_copied cd_CT_copied ct_CT_copied : Value}
    {f_CT_init : Addr}
    {od_CT_init an_CT_init : Option Addr}
    {sl_CT_init : Array (Option Value)}
    {kV_CT_init dc_CT_init pm_CT_init cd_CT_init ct_CT_init : Value}
    {CM : Addr}
    {CL : Addr}
    {f_CM_many : Addr}
    {od_CM_many an_CM_many : Option Addr}
    {sl_CM_many : Array (Option Value)}
    {kV_CM_many dc_CM_many pm_CM_many cd_CM_many ct_CM_many : Value}
    {f_CM_need_make : Addr}
    {od_CM_need_make an_CM_need_make : Option Addr}
    {sl_CM_need_make : Array (Option Value)}
    {kV_CM_need_make dc_CM_need_make pm_CM_need_make cd_CM_need_make ct_CM_need_make : Value}
    {f_CM_line : Addr}
    {od_CM_line an_CM_line : Option Addr}
    {sl_CM_line : Array (Option Value)}
    {kV_CM_line dc_CM_line pm_CM_line cd_CM_line ct_CM_line : Value}
    {f_CM_depth : Addr}
    {od_CM_depth an_CM_depth : Option Addr}
    {sl_CM_depth : Array (Option Value)}
    {kV_CM_depth dc_CM_depth pm_CM_depth cd_CM_depth ct_CM_depth : Value}
    {f_CM_nearest : Addr}
    {od_CM_nearest an_CM_nearest : Option Addr}
    {sl_CM_nearest : Array (Option Value)}
    {kV_CM_nearest dc_CM_nearest pm_CM_nearest cd_CM_nearest ct_CM_nearest : Value}
    {f_CM_grown_alike : Addr}
    {od_CM_grown_alike an_CM_grown_alike : Option Addr}
    {sl_CM_grown_alike : Array (Option Value)}
    {kV_CM_grown_alike dc_CM_grown_alike pm_CM_grown_alike cd_CM_grown_alike ct_CM_grown_alike : Value}
    {f_CM_grow : Addr}
    {od_CM_grow an_CM_grow : Option Addr}
    {sl_CM_grow : Array (Option Value)}
    {kV_CM_grow dc_CM_grow pm_CM_grow cd_CM_grow ct_CM_grow : Value}
    {f_CM_init : Addr}
    {od_CM_init an_CM_init : Option Addr}
    {sl_CM_init : Array (Option Value)}
    {kV_CM_init dc_CM_init pm_CM_init cd_CM_init ct_CM_init : Value}
    {f_CL_leaps_through : Addr}
    {od_CL_leaps_through an_CL_leaps_through : Option Addr}
    {sl_CL_leaps_through : Array (Option Value)}
    {kV_CL_leaps_through dc_CL_leaps_through pm_CL_leaps_through cd_CL_leaps_through ct_CL_leaps_through : Value}
    {f_CL_copied : Addr}
    {od_CL_copied an_CL_copied : Option Addr}
    {sl_CL_copied : Array (Option Value)}
    {kV_CL_copied dc_CL_copied pm_CL_copied cd_CL_copied ct_CL_copied : Value}
    {ic_CL : PySem.ClassData}
    {xc_CL : Value}
    {xd_CL : Option Addr}
    {xs_CL : Array (Option Value)}
    {f_CL_grow cc_CL_grow co_CL_grow : Addr}
    {od_CL_grow an_CL_grow cdd_CL_grow cld_CL_grow : Option Addr}
    {dc_CL_grow pm_CL_grow ct_CL_grow ccl_CL_grow cv_CL_grow : Value}
    {sl_CL_grow ccs_CL_grow csl_CL_grow : Array (Option Value)}
    {vs_CL_grow : Array Value}
    {tf_CL_grow : Tok}
    {file_CL_grow : Str}
    {f_CL_init cc_CL_init co_CL_init : Addr}
    {od_CL_init an_CL_init cdd_CL_init cld_CL_init : Option Addr}
    {dc_CL_init pm_CL_init ct_CL_init ccl_CL_init cv_CL_init : Value}
    {sl_CL_init ccs_CL_init csl_CL_init : Array (Option Value)}
    {vs_CL_init : Array Value}
    {tf_CL_init : Tok}
    {file_CL_init : Str}
    {CE : Addr}
    {nmN qN fileN : Str} {CN fN NN cdaN ccN : Addr} {bsN subN : List Value} {snN : List Str} {abN : Bool} {colN : Option Bool} {ddN odN anN cddN cldN : Option Addr} {m0N m1N m2N m3N m5N : Option Value} {dcN pmN ctN cclN clN : Value} {slN ccsN cslN : Array (Option Value)} {vsN : Array Value} {tfN : Tok} {kdN : Nat} {r1N r2N p1N p2N p3N p4N p5N p6N q1N q2N q3N q4N : Pos}
    (a0 : PySem.W.nsIn K mainGlobals "is_whole" = some (some (.ref f0)))
    (l0 : K.lookup f0 = some ⟨.type "function", od0, .func (PySem.W.fnOf "is_whole" "is_whole" (defArgs s_is_whole) (defBody s_is_whole) (defScope s_is_whole) .none kV0 dc0 pm0 an0 cd0 ct0), sl0⟩)
    (c0 : PySem.W.codeIn K cd0 "is_whole" = true)
    (a1 : PySem.W.nsIn K mainGlobals "_law_cell_at" = some (some (.ref f1)))
    (l1 : K.lookup f1 = some ⟨.type "function", od1, .func (PySem.W.fnOf "_law_cell_at" "_law_cell_at" (defArgs s__law_cell_at) (defBody s__law_cell_at) (defScope s__law_cell_at) .none kV1 dc1 pm1 an1 cd1 ct1), sl1⟩)
    (c1 : PySem.W.codeIn K cd1 "_law_cell_at" = true)
    (a2 : PySem.W.nsIn K mainGlobals "_law_box" = some (some (.ref f2)))
    (l2 : K.lookup f2 = some ⟨.type "function", od2, .func (PySem.W.fnOf "_law_box" "_law_box" (defArgs s__law_box) (defBody s__law_box) (defScope s__law_box) .none kV2 dc2 pm2 an2 cd2 ct2), sl2⟩)
    (c2 : PySem.W.codeIn K cd2 "_law_box" = true)
    (a3 : PySem.W.nsIn K mainGlobals "_law_take" = some (some (.ref f3)))
    (l3 : K.lookup f3 = some ⟨.type "function", od3, .func (PySem.W.fnOf "_law_take" "_law_take" (defArgs s__law_take) (defBody s__law_take) (defScope s__law_take) .none kV3 dc3 pm3 an3 cd3 ct3), sl3⟩)
    (c3 : PySem.W.codeIn K cd3 "_law_take" = true)
    (a4 : PySem.W.nsIn K mainGlobals "_law_stretch_right" = some (some (.ref f4)))
    (l4 : K.lookup f4 = some ⟨.type "function", od4, .func (PySem.W.fnOf "_law_stretch_right" "_law_stretch_right" (defArgs s__law_stretch_right) (defBody s__law_stretch_right) (defScope s__law_stretch_right) .none kV4 dc4 pm4 an4 cd4 ct4), sl4⟩)
    (c4 : PySem.W.codeIn K cd4 "_law_stretch_right" = true)
    (a5 : PySem.W.nsIn K mainGlobals "_law_pair_right" = some (some (.ref f5)))
    (l5 : K.lookup f5 = some ⟨.type "function", od5, .func (PySem.W.fnOf "_law_pair_right" "_law_pair_right" (defArgs s__law_pair_right) (defBody s__law_pair_right) (defScope s__law_pair_right) .none kV5 dc5 pm5 an5 cd5 ct5), sl5⟩)
    (c5 : PySem.W.codeIn K cd5 "_law_pair_right" = true)
    (a6 : PySem.W.nsIn K mainGlobals "_law_refused" = some (some (.ref f6)))
    (l6 : K.lookup f6 = some ⟨.type "function", od6, .func (PySem.W.fnOf "_law_refused" "_law_refused" (defArgs s__law_refused) (defBody s__law_refused) (defScope s__law_refused) .none kV6 dc6 pm6 an6 cd6 ct6), sl6⟩)
    (c6 : PySem.W.codeIn K cd6 "_law_refused" = true)
    (a7 : PySem.W.nsIn K mainGlobals "_law_both_right" = some (some (.ref f7)))
    (l7 : K.lookup f7 = some ⟨.type "function", od7, .func (PySem.W.fnOf "_law_both_right" "_law_both_right" (defArgs s__law_both_right) (defBody s__law_both_right) (defScope s__law_both_right) .none kV7 dc7 pm7 an7 cd7 ct7), sl7⟩)
    (c7 : PySem.W.codeIn K cd7 "_law_both_right" = true)
    (a8 : PySem.W.nsIn K mainGlobals "law" = some (some (.ref f8)))
    (l8 : K.lookup f8 = some ⟨.type "function", od8, .func (PySem.W.fnOf "law" "law" (defArgs s_law) (defBody s_law) (defScope s_law) .none kV8 dc8 pm8 an8 cd8 ct8), sl8⟩)
    (c8 : PySem.W.codeIn K cd8 "law" = true)
    (z_len : PySem.W.nsIn K mainGlobals "len" = some none)
    (z_max : PySem.W.nsIn K mainGlobals "max" = some none)
    (z_min : PySem.W.nsIn K mainGlobals "min" = some none)
    (z_range : PySem.W.nsIn K mainGlobals "range" = some none)
    (z_repr : PySem.W.nsIn K mainGlobals "repr" = some none)
    (z_isinstance : PySem.W.nsIn K mainGlobals "isinstance" = some none)
    (z_enumerate : PySem.W.nsIn K mainGlobals "enumerate" = some none)
    (z_sorted : PySem.W.nsIn K mainGlobals "sorted" = some none)
    (z_zip : PySem.W.nsIn K mainGlobals "zip" = some none)
    (z_int : PySem.W.nsIn K mainGlobals "int" = some none)
    (z_bool : PySem.W.nsIn K mainGlobals "bool" = some none)
    (z_list : PySem.W.nsIn K mainGlobals "list" = some none)
    (z_dict : PySem.W.nsIn K mainGlobals "dict" = some none)
    (i_MOST_MARKS : PySem.W.nsIn K mainGlobals "MOST_MARKS" = some (some (.int 200 t_MOST_MARKS)))
    (i_LABELS : PySem.W.nsIn K mainGlobals "LABELS" = some (some (.int 1024 t_LABELS)))
    (i_MOST_MAKES : PySem.W.nsIn K mainGlobals "MOST_MAKES" = some (some (.int 64 t_MOST_MAKES)))
    (a_CO : PySem.W.nsIn K mainGlobals "Order" = some (some (.ref CO)))
    (pg_CO : PySem.W.plainGet K CO Str.empty = true)
    (hd_CO : PySem.W.hasDictIn K CO = true)
    (po_CO : PySem.W.plainOver K CO = true)
    (sa_CO : PySem.W.findIn K (.ref CO) "__setattr__" = some (some (.builtin "object.__setattr__")))
    (no_CO__marks : PySem.W.findIn K (.ref CO) "_marks" = some none)
    (no_CO__labels : PySem.W.findIn K (.ref CO) "_labels" = some none)
    (no_CO__given : PySem.W.findIn K (.ref CO) "_given" = some none)
    (no_CO__times : PySem.W.findIn K (.ref CO) "_times" = some none)
    (mk_CO : PySem.W.makesIn K CO = true)
    (kp_CO : PySem.W.keepIn K (.ref CO) = true)
    (m_CO_many : PySem.W.findIn K (.ref CO) "many" = some (some (.ref f_CO_many)))
    (l_CO_many : K.lookup f_CO_many = some ⟨.type "function", od_CO_many, .func (PySem.W.fnOf "many" "Order.many" (defArgs s_Order_many) (defBody s_Order_many) (defScope s_Order_many) .none kV_CO_many dc_CO_many pm_CO_many an_CO_many cd_CO_many ct_CO_many), sl_CO_many⟩)
    (c_CO_many : PySem.W.codeIn K cd_CO_many "Order.many" = true)
    (m_CO_need_mark : PySem.W.findIn K (.ref CO) "_need_mark" = some (some (.ref f_CO_need_mark)))
    (l_CO_need_mark : K.lookup f_CO_need_mark = some ⟨.type "function", od_CO_need_mark, .func (PySem.W.fnOf "_need_mark" "Order._need_mark" (defArgs s_Order__need_mark) (defBody s_Order__need_mark) (defScope s_Order__need_mark) .none kV_CO_need_mark dc_CO_need_mark pm_CO_need_mark an_CO_need_mark cd_CO_need_mark ct_CO_need_mark), sl_CO_need_mark⟩)
    (c_CO_need_mark : PySem.W.codeIn K cd_CO_need_mark "Order._need_mark" = true)
    (m_CO_label : PySem.W.findIn K (.ref CO) "label" = some (some (.ref f_CO_label)))
    (l_CO_label : K.lookup f_CO_label = some ⟨.type "function", od_CO_label, .func (PySem.W.fnOf "label" "Order.label" (defArgs s_Order_label) (defBody s_Order_label) (defScope s_Order_label) .none kV_CO_label dc_CO_label pm_CO_label an_CO_label cd_CO_label ct_CO_label), sl_CO_label⟩)
    (c_CO_label : PySem.W.codeIn K cd_CO_label "Order.label" = true)
    (m_CO_ahead : PySem.W.findIn K (.ref CO) "ahead" = some (some (.ref f_CO_ahead)))
    (l_CO_ahead : K.lookup f_CO_ahead = some ⟨.type "function", od_CO_ahead, .func (PySem.W.fnOf "ahead" "Order.ahead" (defArgs s_Order_ahead) (defBody s_Order_ahead) (defScope s_Order_ahead) .none kV_CO_ahead dc_CO_ahead pm_CO_ahead an_CO_ahead cd_CO_ahead ct_CO_ahead), sl_CO_ahead⟩)
    (c_CO_ahead : PySem.W.codeIn K cd_CO_ahead "Order.ahead" = true)
    (m_CO_label_at : PySem.W.findIn K (.ref CO) "_label_at" = some (some (.ref f_CO_label_at)))
    (l_CO_label_at : K.lookup f_CO_label_at = some ⟨.type "function", od_CO_label_at, .func (PySem.W.fnOf "_label_at" "Order._label_at" (defArgs s_Order__label_at) (defBody s_Order__label_at) (defScope s_Order__label_at) .none kV_CO_label_at dc_CO_label_at pm_CO_label_at an_CO_label_at cd_CO_label_at ct_CO_label_at), sl_CO_label_at⟩)
    (c_CO_label_at : PySem.W.codeIn K cd_CO_label_at "Order._label_at" = true)
    (m_CO_marks : PySem.W.findIn K (.ref CO) "marks" = some (some (.ref f_CO_marks)))
    (l_CO_marks : K.lookup f_CO_marks = some ⟨.type "function", od_CO_marks, .func (PySem.W.fnOf "marks" "Order.marks" (defArgs s_Order_marks) (defBody s_Order_marks) (defScope s_Order_marks) .none kV_CO_marks dc_CO_marks pm_CO_marks an_CO_marks cd_CO_marks ct_CO_marks), sl_CO_marks⟩)
    (c_CO_marks : PySem.W.codeIn K cd_CO_marks "Order.marks" = true)
    (m_CO_label_anew : PySem.W.findIn K (.ref CO) "_label_anew" = some (some (.ref f_CO_label_anew)))
    (l_CO_label_anew : K.lookup f_CO_label_anew = some ⟨.type "function", od_CO_label_anew, .func (PySem.W.fnOf "_label_anew" "Order._label_anew" (defArgs s_Order__label_anew) (defBody s_Order__label_anew) (defScope s_Order__label_anew) .none kV_CO_label_anew dc_CO_label_anew pm_CO_label_anew an_CO_label_anew cd_CO_label_anew ct_CO_label_anew), sl_CO_label_anew⟩)
    (c_CO_label_anew : PySem.W.codeIn K cd_CO_label_anew "Order._label_anew" = true)
    (m_CO_behind : PySem.W.findIn K (.ref CO) "behind" = some (some (.ref f_CO_behind)))
    (l_CO_behind : K.lookup f_CO_behind = some ⟨.type "function", od_CO_behind, .func (PySem.W.fnOf "behind" "Order.behind" (defArgs s_Order_behind) (defBody s_Order_behind) (defScope s_Order_behind) .none kV_CO_behind dc_CO_behind pm_CO_behind an_CO_behind cd_CO_behind ct_CO_behind), sl_CO_behind⟩)
    (c_CO_behind : PySem.W.codeIn K cd_CO_behind "Order.behind" = true)
    (m_CO_copied : PySem.W.findIn K (.ref CO) "copied" = some (some (.ref f_CO_copied)))
    (l_CO_copied : K.lookup f_CO_copied = some ⟨.type "function", od_CO_copied, .func (PySem.W.fnOf "copied" "Order.copied" (defArgs s_Order_copied) (defBody s_Order_copied) (defScope s_Order_copied) .none kV_CO_copied dc_CO_copied pm_CO_copied an_CO_copied cd_CO_copied ct_CO_copied), sl_CO_copied⟩)
    (c_CO_copied : PySem.W.codeIn K cd_CO_copied "Order.copied" = true)
    (m_CO_init : PySem.W.findIn K (.ref CO) "__init__" = some (some (.ref f_CO_init)))
    (l_CO_init : K.lookup f_CO_init = some ⟨.type "function", od_CO_init, .func (PySem.W.fnOf "__init__" "Order.__init__" (defArgs s_Order___init__) (defBody s_Order___init__) (defScope s_Order___init__) .none kV_CO_init dc_CO_init pm_CO_init an_CO_init cd_CO_init ct_CO_init), sl_CO_init⟩)
    (c_CO_init : PySem.W.codeIn K cd_CO_init "Order.__init__" = true)
    (a_CT : PySem.W.nsIn K mainGlobals "Tour" = some (some (.ref CT)))
    (pg_CT : PySem.W.plainGet K CT Str.empty = true)
    (hd_CT : PySem.W.hasDictIn K CT = true)
    (po_CT : PySem.W.plainOver K CT = true)
    (sa_CT : PySem.W.findIn K (.ref CT) "__setattr__" = some (some (.builtin "object.__setattr__")))
    (no_CT__order : PySem.W.findIn K (.ref CT) "_order" = some none)
    (no_CT__marks : PySem.W.findIn K (.ref CT) "_marks" = some none)
    (mk_CT : PySem.W.makesIn K CT = true)
    (kp_CT : PySem.W.keepIn K (.ref CT) = true)
    (m_CT_many : PySem.W.findIn K (.ref CT) "many" = some (some (.ref f_CT_many)))
    (l_CT_many : K.lookup f_CT_many = some ⟨.type "function", od_CT_many, .func (PySem.W.fnOf "many" "Tour.many" (defArgs s_Tour_many) (defBody s_Tour_many) (defScope s_Tour_many) .none kV_CT_many dc_CT_many pm_CT_many an_CT_many cd_CT_many ct_CT_many), sl_CT_many⟩)
    (c_CT_many : PySem.W.codeIn K cd_CT_many "Tour.many" = true)
    (m_CT_need_make : PySem.W.findIn K (.ref CT) "_need_make" = some (some (.ref f_CT_need_make)))
    (l_CT_need_make : K.lookup f_CT_need_make = some ⟨.type "function", od_CT_need_make, .func (PySem.W.fnOf "_need_make" "Tour._need_make" (defArgs s_Tour__need_make) (defBody s_Tour__need_make) (defScope s_Tour__need_make) .none kV_CT_need_make dc_CT_need_make pm_CT_need_make an_CT_need_make cd_CT_need_make ct_CT_need_make), sl_CT_need_make⟩)
    (c_CT_need_make : PySem.W.codeIn K cd_CT_need_make "Tour._need_make" = true)
    (m_CT_grow : PySem.W.findIn K (.ref CT) "grow" = some (some (.ref f_CT_grow)))
    (l_CT_grow : K.lookup f_CT_grow = some ⟨.type "function", od_CT_grow, .func (PySem.W.fnOf "grow" "Tour.grow" (defArgs s_Tour_grow) (defBody s_Tour_grow) (defScope s_Tour_grow) .none kV_CT_grow dc_CT_grow pm_CT_grow an_CT_grow cd_CT_grow ct_CT_grow), sl_CT_grow⟩)
    (c_CT_grow : PySem.W.codeIn K cd_CT_grow "Tour.grow" = true)
    (m_CT_marks_of : PySem.W.findIn K (.ref CT) "marks_of" = some (some (.ref f_CT_marks_of)))
    (l_CT_marks_of : K.lookup f_CT_marks_of = some ⟨.type "function", od_CT_marks_of, .func (PySem.W.fnOf "marks_of" "Tour.marks_of" (defArgs s_Tour_marks_of) (defBody s_Tour_marks_of) (defScope s_Tour_marks_of) .none kV_CT_marks_of dc_CT_marks_of pm_CT_marks_of an_CT_marks_of cd_CT_marks_of ct_CT_marks_of), sl_CT_marks_of⟩)
    (c_CT_marks_of : PySem.W.codeIn K cd_CT_marks_of "Tour.marks_of" = true)
    (m_CT_order : PySem.W.findIn K (.ref CT) "order" = some (some (.ref f_CT_order)))
    (l_CT_order : K.lookup f_CT_order = some ⟨.type "function", od_CT_order, .func (PySem.W.fnOf "order" "Tour.order" (defArgs s_Tour_order) (defBody s_Tour_order) (defScope s_Tour_order) .none kV_CT_order dc_CT_order pm_CT_order an_CT_order cd_CT_order ct_CT_order), sl_CT_order⟩)
    (c_CT_order : PySem.W.codeIn K cd_CT_order "Tour.order" = true)
    (m_CT_makes_by : PySem.W.findIn K (.ref CT) "_makes_by" = some (some (.ref f_CT_makes_by)))
    (l_CT_makes_by : K.lookup f_CT_makes_by = some ⟨.type "function", od_CT_makes_by, .func (PySem.W.fnOf "_makes_by" "Tour._makes_by" (defArgs s_Tour__makes_by) (defBody s_Tour__makes_by) (defScope s_Tour__makes_by) .none kV_CT_makes_by dc_CT_makes_by pm_CT_makes_by an_CT_makes_by cd_CT_makes_by ct_CT_makes_by), sl_CT_makes_by⟩)
    (c_CT_makes_by : PySem.W.codeIn K cd_CT_makes_by "Tour._makes_by" = true)
    (m_CT_coming : PySem.W.findIn K (.ref CT) "coming" = some (some (.ref f_CT_coming)))
    (l_CT_coming : K.lookup f_CT_coming = some ⟨.type "function", od_CT_coming, .func (PySem.W.fnOf "coming" "Tour.coming" (defArgs s_Tour_coming) (defBody s_Tour_coming) (defScope s_Tour_coming) .none kV_CT_coming dc_CT_coming pm_CT_coming an_CT_coming cd_CT_coming ct_CT_coming), sl_CT_coming⟩)
    (c_CT_coming : PySem.W.codeIn K cd_CT_coming "Tour.coming" = true)
    (m_CT_leaving : PySem.W.findIn K (.ref CT) "leaving" = some (some (.ref f_CT_leaving)))
    (l_CT_leaving : K.lookup f_CT_leaving = some ⟨.type "function", od_CT_leaving, .func (PySem.W.fnOf "leaving" "Tour.leaving" (defArgs s_Tour_leaving) (defBody s_Tour_leaving) (defScope s_Tour_leaving) .none kV_CT_leaving dc_CT_leaving pm_CT_leaving an_CT_leaving cd_CT_leaving ct_CT_leaving), sl_CT_leaving⟩)
    (c_CT_leaving : PySem.W.codeIn K cd_CT_leaving "Tour.leaving" = true)
    (m_CT_is_beneath : PySem.W.findIn K (.ref CT) "_is_beneath" = some (some (.ref f_CT_is_beneath)))
    (l_CT_is_beneath : K.lookup f_CT_is_beneath = some ⟨.type "function", od_CT_is_beneath, .func (PySem.W.fnOf "_is_beneath" "Tour._is_beneath" (defArgs s_Tour__is_beneath) (defBody s_Tour__is_beneath) (defScope s_Tour__is_beneath) .none kV_CT_is_beneath dc_CT_is_beneath pm_CT_is_beneath an_CT_is_beneath cd_CT_is_beneath ct_CT_is_beneath), sl_CT_is_beneath⟩)
    (c_CT_is_beneath : PySem.W.codeIn K cd_CT_is_beneath "Tour._is_beneath" = true)
    (m_CT_within : PySem.W.findIn K (.ref CT) "within" = some (some (.ref f_CT_within)))
    (l_CT_within : K.lookup f_CT_within = some ⟨.type "function", od_CT_within, .func (PySem.W.fnOf "within" "Tour.within" (defArgs s_Tour_within) (defBody s_Tour_within) (defScope s_Tour_within) .none kV_CT_within dc_CT_within pm_CT_within an_CT_within cd_CT_within ct_CT_within), sl_CT_within⟩)
    (c_CT_within : PySem.W.codeIn K cd_CT_within "Tour.within" = true)
    (m_CT_beneath : PySem.W.findIn K (.ref CT) "beneath" = some (some (.ref f_CT_beneath)))
    (l_CT_beneath : K.lookup f_CT_beneath = some ⟨.type "function", od_CT_beneath, .func (PySem.W.fnOf "beneath" "Tour.beneath" (defArgs s_Tour_beneath) (defBody s_Tour_beneath) (defScope s_Tour_beneath) .none kV_CT_beneath dc_CT_beneath pm_CT_beneath an_CT_beneath cd_CT_beneath ct_CT_beneath), sl_CT_beneath⟩)
    (c_CT_beneath : PySem.W.codeIn K cd_CT_beneath "Tour.beneath" = true)
    (m_CT_copied : PySem.W.findIn K (.ref CT) "copied" = some (some (.ref f_CT_copied)))
    (l_CT_copied : K.lookup f_CT_copied = some ⟨.type "function", od_CT_copied, .func (PySem.W.fnOf "copied" "Tour.copied" (defArgs s_Tour_copied) (defBody s_Tour_copied) (defScope s_Tour_copied) .none kV_CT_copied dc_CT_copied pm_CT_copied an_CT_copied cd_CT_copied ct_CT_copied), sl_CT_copied⟩)
    (c_CT_copied : PySem.W.codeIn K cd_CT_copied "Tour.copied" = true)
    (m_CT_init : PySem.W.findIn K (.ref CT) "__init__" = some (some (.ref f_CT_init)))
    (l_CT_init : K.lookup f_CT_init = some ⟨.type "function", od_CT_init, .func (PySem.W.fnOf "__init__" "Tour.__init__" (defArgs s_Tour___init__) (defBody s_Tour___init__) (defScope s_Tour___init__) .none kV_CT_init dc_CT_init pm_CT_init an_CT_init cd_CT_init ct_CT_init), sl_CT_init⟩)
    (c_CT_init : PySem.W.codeIn K cd_CT_init "Tour.__init__" = true)
    (a_CM : PySem.W.nsIn K mainGlobals "MakeTree" = some (some (.ref CM)))
    (a_CL : PySem.W.nsIn K mainGlobals "LeapTree" = some (some (.ref CL)))
    (pg_CL : PySem.W.plainGet K CL Str.empty = true)
    (hd_CL : PySem.W.hasDictIn K CL = true)
    (po_CL : PySem.W.plainOver K CL = true)
    (sa_CL : PySem.W.findIn K (.ref CL) "__setattr__" = some (some (.builtin "object.__setattr__")))
    (no_CL__owns : PySem.W.findIn K (.ref CL) "_owns" = some none)
    (no_CL__depths : PySem.W.findIn K (.ref CL) "_depths" = some none)
    (no_CL__on : PySem.W.findIn K (.ref CL) "_on" = some none)
    (no_CL__leaps : PySem.W.findIn K (.ref CL) "_leaps" = some none)
    (mk_CL : PySem.W.makesIn K CL = true)
    (kp_CL : PySem.W.keepIn K (.ref CL) = true)
    (m_CM_many_CL : PySem.W.findIn K (.ref CL) "many" = some (some (.ref f_CM_many)))
    (l_CM_many : K.lookup f_CM_many = some ⟨.type "function", od_CM_many, .func (PySem.W.fnOf "many" "MakeTree.many" (defArgs s_MakeTree_many) (defBody s_MakeTree_many) (defScope s_MakeTree_many) .none kV_CM_many dc_CM_many pm_CM_many an_CM_many cd_CM_many ct_CM_many), sl_CM_many⟩)
    (c_CM_many : PySem.W.codeIn K cd_CM_many "MakeTree.many" = true)
    (m_CM_need_make_CL : PySem.W.findIn K (.ref CL) "_need_make" = some (some (.ref f_CM_need_make)))
    (l_CM_need_make : K.lookup f_CM_need_make = some ⟨.type "function", od_CM_need_make, .func (PySem.W.fnOf "_need_make" "MakeTree._need_make" (defArgs s_MakeTree__need_make) (defBody s_MakeTree__need_make) (defScope s_MakeTree__need_make) .none kV_CM_need_make dc_CM_need_make pm_CM_need_make an_CM_need_make cd_CM_need_make ct_CM_need_make), sl_CM_need_make⟩)
    (c_CM_need_make : PySem.W.codeIn K cd_CM_need_make "MakeTree._need_make" = true)
    (m_CM_line_CL : PySem.W.findIn K (.ref CL) "line" = some (some (.ref f_CM_line)))
    (l_CM_line : K.lookup f_CM_line = some ⟨.type "function", od_CM_line, .func (PySem.W.fnOf "line" "MakeTree.line" (defArgs s_MakeTree_line) (defBody s_MakeTree_line) (defScope s_MakeTree_line) .none kV_CM_line dc_CM_line pm_CM_line an_CM_line cd_CM_line ct_CM_line), sl_CM_line⟩)
    (c_CM_line : PySem.W.codeIn K cd_CM_line "MakeTree.line" = true)
    (m_CM_depth_CL : PySem.W.findIn K (.ref CL) "depth" = some (some (.ref f_CM_depth)))
    (l_CM_depth : K.lookup f_CM_depth = some ⟨.type "function", od_CM_depth, .func (PySem.W.fnOf "depth" "MakeTree.depth" (defArgs s_MakeTree_depth) (defBody s_MakeTree_depth) (defScope s_MakeTree_depth) .none kV_CM_depth dc_CM_depth pm_CM_depth an_CM_depth cd_CM_depth ct_CM_depth), sl_CM_depth⟩)
    (c_CM_depth : PySem.W.codeIn K cd_CM_depth "MakeTree.depth" = true)
    (m_CM_nearest_CL : PySem.W.findIn K (.ref CL) "nearest" = some (some (.ref f_CM_nearest)))
    (l_CM_nearest : K.lookup f_CM_nearest = some ⟨.type "function", od_CM_nearest, .func (PySem.W.fnOf "nearest" "MakeTree.nearest" (defArgs s_MakeTree_nearest) (defBody s_MakeTree_nearest) (defScope s_MakeTree_nearest) .none kV_CM_nearest dc_CM_nearest pm_CM_nearest an_CM_nearest cd_CM_nearest ct_CM_nearest), sl_CM_nearest⟩)
    (c_CM_nearest : PySem.W.codeIn K cd_CM_nearest "MakeTree.nearest" = true)
    (m_CM_grown_alike_CL : PySem.W.findIn K (.ref CL) "_grown_alike" = some (some (.ref f_CM_grown_alike)))
    (l_CM_grown_alike : K.lookup f_CM_grown_alike = some ⟨.type "function", od_CM_grown_alike, .func (PySem.W.fnOf "_grown_alike" "MakeTree._grown_alike" (defArgs s_MakeTree__grown_alike) (defBody s_MakeTree__grown_alike) (defScope s_MakeTree__grown_alike) .none kV_CM_grown_alike dc_CM_grown_alike pm_CM_grown_alike an_CM_grown_alike cd_CM_grown_alike ct_CM_grown_alike), sl_CM_grown_alike⟩)
    (c_CM_grown_alike : PySem.W.codeIn K cd_CM_grown_alike "MakeTree._grown_alike" = true)
    (m_CM_grow : PySem.W.findIn K (.ref CM) "grow" = some (some (.ref f_CM_grow)))
    (l_CM_grow : K.lookup f_CM_grow = some ⟨.type "function", od_CM_grow, .func (PySem.W.fnOf "grow" "MakeTree.grow" (defArgs s_MakeTree_grow) (defBody s_MakeTree_grow) (defScope s_MakeTree_grow) .none kV_CM_grow dc_CM_grow pm_CM_grow an_CM_grow cd_CM_grow ct_CM_grow), sl_CM_grow⟩)
    (c_CM_grow : PySem.W.codeIn K cd_CM_grow "MakeTree.grow" = true)
    (m_CM_init : PySem.W.findIn K (.ref CM) "__init__" = some (some (.ref f_CM_init)))
    (l_CM_init : K.lookup f_CM_init = some ⟨.type "function", od_CM_init, .func (PySem.W.fnOf "__init__" "MakeTree.__init__" (defArgs s_MakeTree___init__) (defBody s_MakeTree___init__) (defScope s_MakeTree___init__) .none kV_CM_init dc_CM_init pm_CM_init an_CM_init cd_CM_init ct_CM_init), sl_CM_init⟩)
    (c_CM_init : PySem.W.codeIn K cd_CM_init "MakeTree.__init__" = true)
    (m_CL_leaps_through : PySem.W.findIn K (.ref CL) "_leaps_through" = some (some (.ref f_CL_leaps_through)))
    (l_CL_leaps_through : K.lookup f_CL_leaps_through = some ⟨.type "function", od_CL_leaps_through, .func (PySem.W.fnOf "_leaps_through" "LeapTree._leaps_through" (defArgs s_LeapTree__leaps_through) (defBody s_LeapTree__leaps_through) (defScope s_LeapTree__leaps_through) .none kV_CL_leaps_through dc_CL_leaps_through pm_CL_leaps_through an_CL_leaps_through cd_CL_leaps_through ct_CL_leaps_through), sl_CL_leaps_through⟩)
    (c_CL_leaps_through : PySem.W.codeIn K cd_CL_leaps_through "LeapTree._leaps_through" = true)
    (m_CL_copied : PySem.W.findIn K (.ref CL) "copied" = some (some (.ref f_CL_copied)))
    (l_CL_copied : K.lookup f_CL_copied = some ⟨.type "function", od_CL_copied, .func (PySem.W.fnOf "copied" "LeapTree.copied" (defArgs s_LeapTree_copied) (defBody s_LeapTree_copied) (defScope s_LeapTree_copied) .none kV_CL_copied dc_CL_copied pm_CL_copied an_CL_copied cd_CL_copied ct_CL_copied), sl_CL_copied⟩)
    (c_CL_copied : PySem.W.codeIn K cd_CL_copied "LeapTree.copied" = true)
    (op : PySem.W.nsIn K cStatics "thirdparty.any" = some none)
    (zs : PySem.W.nsIn K mainGlobals "super" = some none)
    (htop : (l.prog.main.scope.names.lookup ("super" : Str)).isSome = false)
    (x_CL : K.lookup CL = some ⟨xc_CL, xd_CL, .cls ic_CL, xs_CL⟩)
    (mm_CL : PySem.W.mroIn K CL (.ref CL) = some true)
    (m_CL_grow : PySem.W.findIn K (.ref CL) "grow" = some (some (.ref f_CL_grow)))
    (l_CL_grow : K.lookup f_CL_grow = some ⟨.type "function", od_CL_grow, .func (PySem.W.ksFn "grow" "LeapTree.grow" (defArgs s_LeapTree_grow) (defBody s_LeapTree_grow) (defScope s_LeapTree_grow) .none .none dc_CL_grow pm_CL_grow an_CL_grow (.ref co_CL_grow) ct_CL_grow cc_CL_grow), sl_CL_grow⟩)
    (c_CL_grow : PySem.W.codeIn K (.ref co_CL_grow) "LeapTree.grow" = true)
    (dl_CL_grow : K.lookup co_CL_grow = some ⟨ccl_CL_grow, cdd_CL_grow, .fields vs_CL_grow, ccs_CL_grow⟩)
    (fv_CL_grow : vs_CL_grow[2]? = some (.str file_CL_grow tf_CL_grow))
    (fl_CL_grow : ((l.prog.main.file : Str) == file_CL_grow) = true)
    (zc_CL_grow : K.lookup cc_CL_grow = some ⟨cv_CL_grow, cld_CL_grow, .cell (some (.ref CL)), csl_CL_grow⟩)
    (su_CL_grow : PySem.W.ks_superIn K CL CL "grow" = some (some (.ref f_CM_grow)))
    (m_CL_init : PySem.W.findIn K (.ref CL) "__init__" = some (some (.ref f_CL_init)))
    (l_CL_init : K.lookup f_CL_init = some ⟨.type "function", od_CL_init, .func (PySem.W.ksFn "__init__" "LeapTree.__init__" (defArgs s_LeapTree___init__) (defBody s_LeapTree___init__) (defScope s_LeapTree___init__) .none .none dc_CL_init pm_CL_init an_CL_init (.ref co_CL_init) ct_CL_init cc_CL_init), sl_CL_init⟩)
    (c_CL_init : PySem.W.codeIn K (.ref co_CL_init) "LeapTree.__init__" = true)
    (dl_CL_init : K.lookup co_CL_init = some ⟨ccl_CL_init, cdd_CL_init, .fields vs_CL_init, ccs_CL_init⟩)
    (fv_CL_init : vs_CL_init[2]? = some (.str file_CL_init tf_CL_init))
    (fl_CL_init : ((l.prog.main.file : Str) == file_CL_init) = true)
    (zc_CL_init : K.lookup cc_CL_init = some ⟨cv_CL_init, cld_CL_init, .cell (some (.ref CL)), csl_CL_init⟩)
    (su_CL_init : PySem.W.ks_superIn K CL CL "__init__" = some (some (.ref f_CM_init)))
    (aN : PySem.W.nsIn K mainGlobals "NoMake" = some (some (.ref CN)))
    (xN : K.lookup CN = some (excClassObj nmN qN CN NN bsN [.ref CE, .type "ValueError", .type "Exception", .type "BaseException", .type "object"] true snN subN abN colN ddN m0N m1N m2N m3N m5N "ValueError.__new__"))
    (saN : PySem.W.findIn K (.ref CN) "__setattr__" = some (some (.builtin "object.__setattr__")))
    (gaN : PySem.W.findIn K (.ref CN) "__getattribute__" = some (some (.builtin "BaseException.__getattribute__")))
    (ggN : PySem.W.findIn K (.ref CN) "__getattr__" = some none)
    (nnN : PySem.W.findIn K (.ref CN) "found" = some none)
    (iiN : PySem.W.findIn K (.ref CN) "__init__" = some (some (.ref fN)))
    (kkN : PySem.W.keepIn K (.ref CN) = true)
    (eeN : PySem.W.subIn K (.ref CN) (.type "BaseException") = some true)
    (veN : PySem.W.subIn K (.ref CN) (.type "ValueError") = some true)
    (tyN : PySem.W.typeIn K (.ref CN) = some (.type "type"))
    (hdN : PySem.W.hasDictIn K CN = true)
    (mmN : PySem.W.mroIn K CN (.ref CN) = some true)
    (suN : PySem.W.ks_superIn K CN CN "__init__" = some (some (.builtin "ValueError.__init__")))
    (llN : K.lookup fN = some ⟨.type "function", odN, .func (PySem.W.ksFn "__init__" "NoMake.__init__" (Ge.iA r1N r2N) (Ge.iB "this is no make" kdN p1N p2N p3N p4N p5N p6N q1N q2N q3N q4N) Ge.iS .none .none dcN pmN anN (.ref cdaN) ctN ccN), slN⟩)
    (ciN : PySem.W.codeIn K (.ref cdaN) "NoMake.__init__" = true)
    (dlN : K.lookup cdaN = some ⟨cclN, cddN, .fields vsN, ccsN⟩)
    (fvN : vsN[2]? = some (.str fileN tfN))
    (flN : ((l.prog.main.file : Str) == fileN) = true)
    (zcN : K.lookup ccN = some ⟨clN, cldN, .cell (some (.ref CN)), cslN⟩)
    (plN : (p3N.endLine == p5N.line) = true)
    (ssN : PySem.W.subIn K (.ref CN) (.ref CN) = some true)
    (icN : PySem.W.isClsIn K CN = true)
    : ∃ fd : FuncData, (∀ (s : Shared) (v : Value), BindsTo s fd ⟨[v], []⟩ [("_law_script", v)]) ∧ ∀ base : Heap, K.In base → base.Ns mainGlobals mg → FnG l.prog w K mg base CX0 9 fa fd ["_law_script"] (spLaw K) := by
  have e := hfa.symm.trans (PySem.W.mg_of X G a8)
  cases e
  have k0 := keep_fn l0
  have y0 := isFn_fn l0
  have d_is_whole : DefAt K mg "is_whole" s_is_whole ["thing", "low", "high"] := defAt (PySem.W.mg_of X G a0) l0 c0 k0 (fun _ _ _ _ _ _ us hl => match us, hl with | [_, _, _], _ => rfl)
  have k1 := keep_fn l1
  have y1 := isFn_fn l1
  have d__law_cell_at : DefAt K mg "_law_cell_at" s__law_cell_at ["_law_script", "_law_k"] := defAt (PySem.W.mg_of X G a1) l1 c1 k1 (fun _ _ _ _ _ _ us hl => match us, hl with | [_, _], _ => rfl)
  have k2 := keep_fn l2
  have y2 := isFn_fn l2
  have d__law_box : DefAt K mg "_law_box" s__law_box ["_law_cell"] := defAt (PySem.W.mg_of X G a2) l2 c2 k2 (fun _ _ _ _ _ _ us hl => match us, hl with | [_], _ => rfl)
  have k3 := keep_fn l3
  have y3 := isFn_fn l3
  have d__law_take : DefAt K mg "_law_take" s__law_take ["_law_box_here", "_law_many"] := defAt (PySem.W.mg_of X G a3) l3 c3 k3 (fun _ _ _ _ _ _ us hl => match us, hl with | [_, _], _ => rfl)
  have k4 := keep_fn l4
  have y4 := isFn_fn l4
  have d__law_stretch_right : DefAt K mg "_law_stretch_right" s__law_stretch_right ["_law_tour", "_law_make"] := defAt (PySem.W.mg_of X G a4) l4 c4 k4 (fun _ _ _ _ _ _ us hl => match us, hl with | [_, _], _ => rfl)
  have k5 := keep_fn l5
  have y5 := isFn_fn l5
  have d__law_pair_right : DefAt K mg "_law_pair_right" s__law_pair_right ["_law_tour", "_law_tree", "_law_one", "_law_other"] := defAt (PySem.W.mg_of X G a5) l5 c5 k5 (fun _ _ _ _ _ _ us hl => match us, hl with | [_, _, _, _], _ => rfl)
  have k6 := keep_fn l6
  have y6 := isFn_fn l6
  have d__law_refused : DefAt K mg "_law_refused" s__law_refused ["_law_thing", "_law_make"] := defAt (PySem.W.mg_of X G a6) l6 c6 k6 (fun _ _ _ _ _ _ us hl => match us, hl with | [_, _], _ => rfl)
  have k7 := keep_fn l7
  have y7 := isFn_fn l7
  have d__law_both_right : DefAt K mg "_law_both_right" s__law_both_right ["_law_box_here", "_law_tour", "_law_tree"] := defAt (PySem.W.mg_of X G a7) l7 c7 k7 (fun _ _ _ _ _ _ us hl => match us, hl with | [_, _, _], _ => rfl)
  have k8 := keep_fn l8
  have y8 := isFn_fn l8
  have F_law := fun_mk (st := s_law) l8 c8 k8
  have cl_CO : Cls K CO := ⟨pg_CO, hd_CO, po_CO, sa_CO⟩
  have k_CO_many := keep_fn l_CO_many
  have y_CO_many := isFn_fn l_CO_many
  have F_CO_many := fun_mk (st := s_Order_many) l_CO_many c_CO_many k_CO_many
  have B_CO_many : Binds K _ ["self"] [] := F_CO_many.binds (ps := ["self"]) (fun _ _ _ _ _ _ us hl => match us, hl with | [_], _ => rfl)
  have M_CO_many : MAt K CO "many" "Order.many" s_Order_many ["self"] := ⟨_, _, F_CO_many, ⟨m_CO_many, y_CO_many, k_CO_many⟩, B_CO_many⟩
  have k_CO_need_mark := keep_fn l_CO_need_mark
  have y_CO_need_mark := isFn_fn l_CO_need_mark
  have F_CO_need_mark := fun_mk (st := s_Order__need_mark) l_CO_need_mark c_CO_need_mark k_CO_need_mark
  have B_CO_need_mark : Binds K _ ["self", "mark"] [] := F_CO_need_mark.binds (ps := ["self", "mark"]) (fun _ _ _ _ _ _ us hl => match us, hl with | [_, _], _ => rfl)
  have M_CO_need_mark : MAt K CO "_need_mark" "Order._need_mark" s_Order__need_mark ["self", "mark"] := ⟨_, _, F_CO_need_mark, ⟨m_CO_need_mark, y_CO_need_mark, k_CO_need_mark⟩, B_CO_need_mark⟩
  have k_CO_label := keep_fn l_CO_label
  have y_CO_label := isFn_fn l_CO_label
  have F_CO_label := fun_mk (st := s_Order_label) l_CO_label c_CO_label k_CO_label
  have B_CO_label : Binds K _ ["self", "mark"] [] := F_CO_label.binds (ps := ["self", "mark"]) (fun _ _ _ _ _ _ us hl => match us, hl with | [_, _], _ => rfl)
  have M_CO_label : MAt K CO "label" "Order.label" s_Order_label ["self", "mark"] := ⟨_, _, F_CO_label, ⟨m_CO_label, y_CO_label, k_CO_label⟩, B_CO_label⟩
  have k_CO_ahead := keep_fn l_CO_ahead
  have y_CO_ahead := isFn_fn l_CO_ahead
  have F_CO_ahead := fun_mk (st := s_Order_ahead) l_CO_ahead c_CO_ahead k_CO_ahead
  have B_CO_ahead : Binds K _ ["self", "one", "other"] [] := F_CO_ahead.binds (ps := ["self", "one", "other"]) (fun _ _ _ _ _ _ us hl => match us, hl with | [_, _, _], _ => rfl)
  have M_CO_ahead : MAt K CO "ahead" "Order.ahead" s_Order_ahead ["self", "one", "other"] := ⟨_, _, F_CO_ahead, ⟨m_CO_ahead, y_CO_ahead, k_CO_ahead⟩, B_CO_ahead⟩
  have k_CO_label_at := keep_fn l_CO_label_at
  have y_CO_label_at := isFn_fn l_CO_label_at
  have F_CO_label_at := fun_mk (st := s_Order__label_at) l_CO_label_at c_CO_label_at k_CO_label_at
  have B_CO_label_at : Binds K _ ["self", "at"] [] := F_CO_label_at.binds (ps := ["self", "at"]) (fun _ _ _ _ _ _ us hl => match us, hl with | [_, _], _ => rfl)
  have M_CO_label_at : MAt K CO "_label_at" "Order._label_at" s_Order__label_at ["self", "at"] := ⟨_, _, F_CO_label_at, ⟨m_CO_label_at, y_CO_label_at, k_CO_label_at⟩, B_CO_label_at⟩
  have k_CO_marks := keep_fn l_CO_marks
  have y_CO_marks := isFn_fn l_CO_marks
  have F_CO_marks := fun_mk (st := s_Order_marks) l_CO_marks c_CO_marks k_CO_marks
  have B_CO_marks : Binds K _ ["self"] [] := F_CO_marks.binds (ps := ["self"]) (fun _ _ _ _ _ _ us hl => match us, hl with | [_], _ => rfl)
  have M_CO_marks : MAt K CO "marks" "Order.marks" s_Order_marks ["self"] := ⟨_, _, F_CO_marks, ⟨m_CO_marks, y_CO_marks, k_CO_marks⟩, B_CO_marks⟩
  have k_CO_label_anew := keep_fn l_CO_label_anew
  have y_CO_label_anew := isFn_fn l_CO_label_anew
  have F_CO_label_anew := fun_mk (st := s_Order__label_anew) l_CO_label_anew c_CO_label_anew k_CO_label_anew
  have B_CO_label_anew : Binds K _ ["self"] [] := F_CO_label_anew.binds (ps := ["self"]) (fun _ _ _ _ _ _ us hl => match us, hl with | [_], _ => rfl)
  have M_CO_label_anew : MAt K CO "_label_anew" "Order._label_anew" s_Order__label_anew ["self"] := ⟨_, _, F_CO_label_anew, ⟨m_CO_label_anew, y_CO_label_anew, k_CO_label_anew⟩, B_CO_label_anew⟩
  have k_CO_behind := keep_fn l_CO_behind
  have y_CO_behind := isFn_fn l_CO_behind
  have F_CO_behind := fun_mk (st := s_Order_behind) l_CO_behind c_CO_behind k_CO_behind
  have B_CO_behind : Binds K _ ["self", "mark"] [] := F_CO_behind.binds (ps := ["self", "mark"]) (fun _ _ _ _ _ _ us hl => match us, hl with | [_, _], _ => rfl)
  have M_CO_behind : MAt K CO "behind" "Order.behind" s_Order_behind ["self", "mark"] := ⟨_, _, F_CO_behind, ⟨m_CO_behind, y_CO_behind, k_CO_behind⟩, B_CO_behind⟩
  have k_CO_copied := keep_fn l_CO_copied
  have y_CO_copied := isFn_fn l_CO_copied
  have F_CO_copied := fun_mk (st := s_Order_copied) l_CO_copied c_CO_copied k_CO_copied
  have B_CO_copied : Binds K _ ["self"] [] := F_CO_copied.binds (ps := ["self"]) (fun _ _ _ _ _ _ us hl => match us, hl with | [_], _ => rfl)
  have M_CO_copied : MAt K CO "copied" "Order.copied" s_Order_copied ["self"] := ⟨_, _, F_CO_copied, ⟨m_CO_copied, y_CO_copied, k_CO_copied⟩, B_CO_copied⟩
  have k_CO_init := keep_fn l_CO_init
  have y_CO_init := isFn_fn l_CO_init
  have F_CO_init := fun_mk (st := s_Order___init__) l_CO_init c_CO_init k_CO_init
  have B_CO_init : Binds K _ ["self"] [] := F_CO_init.binds (ps := ["self"]) (fun _ _ _ _ _ _ us hl => match us, hl with | [_], _ => rfl)
  have M_CO_init : MAt K CO "__init__" "Order.__init__" s_Order___init__ ["self"] := ⟨_, _, F_CO_init, ⟨m_CO_init, y_CO_init, k_CO_init⟩, B_CO_init⟩
  have cl_CT : Cls K CT := ⟨pg_CT, hd_CT, po_CT, sa_CT⟩
  have k_CT_many := keep_fn l_CT_many
  have y_CT_many := isFn_fn l_CT_many
  have F_CT_many := fun_mk (st := s_Tour_many) l_CT_many c_CT_many k_CT_many
  have B_CT_many : Binds K _ ["self"] [] := F_CT_many.binds (ps := ["self"]) (fun _ _ _ _ _ _ us hl => match us, hl with | [_], _ => rfl)
  have M_CT_many : MAt K CT "many" "Tour.many" s_Tour_many ["self"] := ⟨_, _, F_CT_many, ⟨m_CT_many, y_CT_many, k_CT_many⟩, B_CT_many⟩
  have k_CT_need_make := keep_fn l_CT_need_make
  have y_CT_need_make := isFn_fn l_CT_need_make
  have F_CT_need_make := fun_mk (st := s_Tour__need_make) l_CT_need_make c_CT_need_make k_CT_need_make
  have B_CT_need_make : Binds K _ ["self", "make"] [] := F_CT_need_make.binds (ps := ["self", "make"]) (fun _ _ _ _ _ _ us hl => match us, hl with | [_, _], _ => rfl)
  have M_CT_need_make : MAt K CT "_need_make" "Tour._need_make" s_Tour__need_make ["self", "make"] := ⟨_, _, F_CT_need_make, ⟨m_CT_need_make, y_CT_need_make, k_CT_need_make⟩, B_CT_need_make⟩
  have k_CT_grow := keep_fn l_CT_grow
  have y_CT_grow := isFn_fn l_CT_grow
  have F_CT_grow := fun_mk (st := s_Tour_grow) l_CT_grow c_CT_grow k_CT_grow
  have B_CT_grow : Binds K _ ["self", "make"] [] := F_CT_grow.binds (ps := ["self", "make"]) (fun _ _ _ _ _ _ us hl => match us, hl with | [_, _], _ => rfl)
  have M_CT_grow : MAt K CT "grow" "Tour.grow" s_Tour_grow ["self", "make"] := ⟨_, _, F_CT_grow, ⟨m_CT_grow, y_CT_grow, k_CT_grow⟩, B_CT_grow⟩
  have k_CT_marks_of := keep_fn l_CT_marks_of
  have y_CT_marks_of := isFn_fn l_CT_marks_of
  have F_CT_marks_of := fun_mk (st := s_Tour_marks_of) l_CT_marks_of c_CT_marks_of k_CT_marks_of
  have B_CT_marks_of : Binds K _ ["self", "make"] [] := F_CT_marks_of.binds (ps := ["self", "make"]) (fun _ _ _ _ _ _ us hl => match us, hl with | [_, _], _ => rfl)
  have M_CT_marks_of : MAt K CT "marks_of" "Tour.marks_of" s_Tour_marks_of ["self", "make"] := ⟨_, _, F_CT_marks_of, ⟨m_CT_marks_of, y_CT_marks_of, k_CT_marks_of⟩, B_CT_marks_of⟩
  have k_CT_order := keep_fn l_CT_order
  have y_CT_order := isFn_fn l_CT_order
  have F_CT_order := fun_mk (st := s_Tour_order) l_CT_order c_CT_order k_CT_order
  have B_CT_order : Binds K _ ["self"] [] := F_CT_order.binds (ps := ["self"]) (fun _ _ _ _ _ _ us hl => match us, hl with | [_], _ => rfl)
  have M_CT_order : MAt K CT "order" "Tour.order" s_Tour_order ["self"] := ⟨_, _, F_CT_order, ⟨m_CT_order, y_CT_order, k_CT_order⟩, B_CT_order⟩
  have k_CT_makes_by := keep_fn l_CT_makes_by
  have y_CT_makes_by := isFn_fn l_CT_makes_by
  have F_CT_makes_by := fun_mk (st := s_Tour__makes_by) l_CT_makes_by c_CT_makes_by k_CT_makes_by
  have B_CT_makes_by : Binds K _ ["self", "makes"] [] := F_CT_makes_by.binds (ps := ["self", "makes"]) (fun _ _ _ _ _ _ us hl => match us, hl with | [_, _], _ => rfl)
  have M_CT_makes_by : MAt K CT "_makes_by" "Tour._makes_by" s_Tour__makes_by ["self", "makes"] := ⟨_, _, F_CT_makes_by, ⟨m_CT_makes_by, y_CT_makes_by, k_CT_makes_by⟩, B_CT_makes_by⟩
  have k_CT_coming := keep_fn l_CT_coming
  have y_CT_coming := isFn_fn l_CT_coming
  have F_CT_coming := fun_mk (st := s_Tour_coming) l_CT_coming c_CT_coming k_CT_coming
  have B_CT_coming : Binds K _ ["self"] [] := F_CT_coming.binds (ps := ["self"]) (fun _ _ _ _ _ _ us hl => match us, hl with | [_], _ => rfl)
  have M_CT_coming : MAt K CT "coming" "Tour.coming" s_Tour_coming ["self"] := ⟨_, _, F_CT_coming, ⟨m_CT_coming, y_CT_coming, k_CT_coming⟩, B_CT_coming⟩
  have k_CT_leaving := keep_fn l_CT_leaving
  have y_CT_leaving := isFn_fn l_CT_leaving
  have F_CT_leaving := fun_mk (st := s_Tour_leaving) l_CT_leaving c_CT_leaving k_CT_leaving
  have B_CT_leaving : Binds K _ ["self"] [] := F_CT_leaving.binds (ps := ["self"]) (fun _ _ _ _ _ _ us hl => match us, hl with | [_], _ => rfl)
  have M_CT_leaving : MAt K CT "leaving" "Tour.leaving" s_Tour_leaving ["self"] := ⟨_, _, F_CT_leaving, ⟨m_CT_leaving, y_CT_leaving, k_CT_leaving⟩, B_CT_leaving⟩
  have k_CT_is_beneath := keep_fn l_CT_is_beneath
  have y_CT_is_beneath := isFn_fn l_CT_is_beneath
  have F_CT_is_beneath := fun_mk (st := s_Tour__is_beneath) l_CT_is_beneath c_CT_is_beneath k_CT_is_beneath
  have B_CT_is_beneath : Binds K _ ["self", "one", "other"] [] := F_CT_is_beneath.binds (ps := ["self", "one", "other"]) (fun _ _ _ _ _ _ us hl => match us, hl with | [_, _, _], _ => rfl)
  have M_CT_is_beneath : MAt K CT "_is_beneath" "Tour._is_beneath" s_Tour__is_beneath ["self", "one", "other"] := ⟨_, _, F_CT_is_beneath, ⟨m_CT_is_beneath, y_CT_is_beneath, k_CT_is_beneath⟩, B_CT_is_beneath⟩
  have k_CT_within := keep_fn l_CT_within
  have y_CT_within := isFn_fn l_CT_within
  have F_CT_within := fun_mk (st := s_Tour_within) l_CT_within c_CT_within k_CT_within
  have B_CT_within : Binds K _ ["self", "one", "other"] [] := F_CT_within.binds (ps := ["self", "one", "other"]) (fun _ _ _ _ _ _ us hl => match us, hl with | [_, _, _], _ => rfl)
  have M_CT_within : MAt K CT "within" "Tour.within" s_Tour_within ["self", "one", "other"] := ⟨_, _, F_CT_within, ⟨m_CT_within, y_CT_within, k_CT_within⟩, B_CT_within⟩
  have k_CT_beneath := keep_fn l_CT_beneath
  have y_CT_beneath := isFn_fn l_CT_beneath
  have F_CT_beneath := fun_mk (st := s_Tour_beneath) l_CT_beneath c_CT_beneath k_CT_beneath
  have B_CT_beneath : Binds K _ ["self", "make"] [] := F_CT_beneath.binds (ps := ["self", "make"]) (fun _ _ _ _ _ _ us hl => match us, hl with | [_, _], _ => rfl)
  have M_CT_beneath : MAt K CT "beneath" "Tour.beneath" s_Tour_beneath ["self", "make"] := ⟨_, _, F_CT_beneath, ⟨m_CT_beneath, y_CT_beneath, k_CT_beneath⟩, B_CT_beneath⟩
  have k_CT_copied := keep_fn l_CT_copied
  have y_CT_copied := isFn_fn l_CT_copied
  have F_CT_copied := fun_mk (st := s_Tour_copied) l_CT_copied c_CT_copied k_CT_copied
  have B_CT_copied : Binds K _ ["self"] [] := F_CT_copied.binds (ps := ["self"]) (fun _ _ _ _ _ _ us hl => match us, hl with | [_], _ => rfl)
  have M_CT_copied : MAt K CT "copied" "Tour.copied" s_Tour_copied ["self"] := ⟨_, _, F_CT_copied, ⟨m_CT_copied, y_CT_copied, k_CT_copied⟩, B_CT_copied⟩
  have k_CT_init := keep_fn l_CT_init
  have y_CT_init := isFn_fn l_CT_init
  have F_CT_init := fun_mk (st := s_Tour___init__) l_CT_init c_CT_init k_CT_init
  have B_CT_init : Binds K _ ["self"] [] := F_CT_init.binds (ps := ["self"]) (fun _ _ _ _ _ _ us hl => match us, hl with | [_], _ => rfl)
  have M_CT_init : MAt K CT "__init__" "Tour.__init__" s_Tour___init__ ["self"] := ⟨_, _, F_CT_init, ⟨m_CT_init, y_CT_init, k_CT_init⟩, B_CT_init⟩
  have cl_CL : Cls K CL := ⟨pg_CL, hd_CL, po_CL, sa_CL⟩
  have k_CM_many := keep_fn l_CM_many
  have y_CM_many := isFn_fn l_CM_many
  have F_CM_many := fun_mk (st := s_MakeTree_many) l_CM_many c_CM_many k_CM_many
  have B_CM_many : Binds K _ ["self"] [] := F_CM_many.binds (ps := ["self"]) (fun _ _ _ _ _ _ us hl => match us, hl with | [_], _ => rfl)
  have M_CM_many_CL : MAt K CL "many" "MakeTree.many" s_MakeTree_many ["self"] := ⟨_, _, F_CM_many, ⟨m_CM_many_CL, y_CM_many, k_CM_many⟩, B_CM_many⟩
  have k_CM_need_make := keep_fn l_CM_need_make
  have y_CM_need_make := isFn_fn l_CM_need_make
  have F_CM_need_make := fun_mk (st := s_MakeTree__need_make) l_CM_need_make c_CM_need_make k_CM_need_make
  have B_CM_need_make : Binds K _ ["self", "make"] [] := F_CM_need_make.binds (ps := ["self", "make"]) (fun _ _ _ _ _ _ us hl => match us, hl with | [_, _], _ => rfl)
  have M_CM_need_make_CL : MAt K CL "_need_make" "MakeTree._need_make" s_MakeTree__need_make ["self", "make"] := ⟨_, _, F_CM_need_make, ⟨m_CM_need_make_CL, y_CM_need_make, k_CM_need_make⟩, B_CM_need_make⟩
  have k_CM_line := keep_fn l_CM_line
  have y_CM_line := isFn_fn l_CM_line
  have F_CM_line := fun_mk (st := s_MakeTree_line) l_CM_line c_CM_line k_CM_line
  have B_CM_line : Binds K _ ["self", "make"] [] := F_CM_line.binds (ps := ["self", "make"]) (fun _ _ _ _ _ _ us hl => match us, hl with | [_, _], _ => rfl)
  have M_CM_line_CL : MAt K CL "line" "MakeTree.line" s_MakeTree_line ["self", "make"] := ⟨_, _, F_CM_line, ⟨m_CM_line_CL, y_CM_line, k_CM_line⟩, B_CM_line⟩
  have k_CM_depth := keep_fn l_CM_depth
  have y_CM_depth := isFn_fn l_CM_depth
  have F_CM_depth := fun_mk (st := s_MakeTree_depth) l_CM_depth c_CM_depth k_CM_depth
  have B_CM_depth : Binds K _ ["self", "make"] [] := F_CM_depth.binds (ps := ["self", "make"]) (fun _ _ _ _ _ _ us hl => match us, hl with | [_, _], _ => rfl)
  have M_CM_depth_CL : MAt K CL "depth" "MakeTree.depth" s_MakeTree_depth ["self", "make"] := ⟨_, _, F_CM_depth, ⟨m_CM_depth_CL, y_CM_depth, k_CM_depth⟩, B_CM_depth⟩
  have k_CM_nearest := keep_fn l_CM_nearest
  have y_CM_nearest := isFn_fn l_CM_nearest
  have F_CM_nearest := fun_mk (st := s_MakeTree_nearest) l_CM_nearest c_CM_nearest k_CM_nearest
  have B_CM_nearest : Binds K _ ["self", "one", "other"] [] := F_CM_nearest.binds (ps := ["self", "one", "other"]) (fun _ _ _ _ _ _ us hl => match us, hl with | [_, _, _], _ => rfl)
  have M_CM_nearest_CL : MAt K CL "nearest" "MakeTree.nearest" s_MakeTree_nearest ["self", "one", "other"] := ⟨_, _, F_CM_nearest, ⟨m_CM_nearest_CL, y_CM_nearest, k_CM_nearest⟩, B_CM_nearest⟩
  have k_CM_grown_alike := keep_fn l_CM_grown_alike
  have y_CM_grown_alike := isFn_fn l_CM_grown_alike
  have F_CM_grown_alike := fun_mk (st := s_MakeTree__grown_alike) l_CM_grown_alike c_CM_grown_alike k_CM_grown_alike
  have B_CM_grown_alike : Binds K _ ["self", "other"] [] := F_CM_grown_alike.binds (ps := ["self", "other"]) (fun _ _ _ _ _ _ us hl => match us, hl with | [_, _], _ => rfl)
  have M_CM_grown_alike_CL : MAt K CL "_grown_alike" "MakeTree._grown_alike" s_MakeTree__grown_alike ["self", "other"] := ⟨_, _, F_CM_grown_alike, ⟨m_CM_grown_alike_CL, y_CM_grown_alike, k_CM_grown_alike⟩, B_CM_grown_alike⟩
  have k_CM_grow := keep_fn l_CM_grow
  have y_CM_grow := isFn_fn l_CM_grow
  have F_CM_grow := fun_mk (st := s_MakeTree_grow) l_CM_grow c_CM_grow k_CM_grow
  have B_CM_grow : Binds K _ ["self", "make"] [] := F_CM_grow.binds (ps := ["self", "make"]) (fun _ _ _ _ _ _ us hl => match us, hl with | [_, _], _ => rfl)
  have k_CM_init := keep_fn l_CM_init
  have y_CM_init := isFn_fn l_CM_init
  have F_CM_init := fun_mk (st := s_MakeTree___init__) l_CM_init c_CM_init k_CM_init
  have B_CM_init : Binds K _ ["self"] [] := F_CM_init.binds (ps := ["self"]) (fun _ _ _ _ _ _ us hl => match us, hl with | [_], _ => rfl)
  have k_CL_leaps_through := keep_fn l_CL_leaps_through
  have y_CL_leaps_through := isFn_fn l_CL_leaps_through
  have F_CL_leaps_through := fun_mk (st := s_LeapTree__leaps_through) l_CL_leaps_through c_CL_leaps_through k_CL_leaps_through
  have B_CL_leaps_through : Binds K _ ["self", "own"] [] := F_CL_leaps_through.binds (ps := ["self", "own"]) (fun _ _ _ _ _ _ us hl => match us, hl with | [_, _], _ => rfl)
  have M_CL_leaps_through : MAt K CL "_leaps_through" "LeapTree._leaps_through" s_LeapTree__leaps_through ["self", "own"] := ⟨_, _, F_CL_leaps_through, ⟨m_CL_leaps_through, y_CL_leaps_through, k_CL_leaps_through⟩, B_CL_leaps_through⟩
  have k_CL_copied := keep_fn l_CL_copied
  have y_CL_copied := isFn_fn l_CL_copied
  have F_CL_copied := fun_mk (st := s_LeapTree_copied) l_CL_copied c_CL_copied k_CL_copied
  have B_CL_copied : Binds K _ ["self"] [] := F_CL_copied.binds (ps := ["self"]) (fun _ _ _ _ _ _ us hl => match us, hl with | [_], _ => rfl)
  have M_CL_copied : MAt K CL "copied" "LeapTree.copied" s_LeapTree_copied ["self"] := ⟨_, _, F_CL_copied, ⟨m_CL_copied, y_CL_copied, k_CL_copied⟩, B_CL_copied⟩
  have k_CL_grow := keep_fn l_CL_grow
  have y_CL_grow := isFn_fn l_CL_grow
  have S_CL_grow : Lf.SAt l.prog K CL "grow" "LeapTree.grow" s_LeapTree_grow ["self", "make"] f_CM_grow := ⟨f_CL_grow, cc_CL_grow, co_CL_grow, .type "function", od_CL_grow, dc_CL_grow, pm_CL_grow, an_CL_grow, ct_CL_grow, sl_CL_grow,
    { fn := ⟨.type "function", od_CL_grow, dc_CL_grow, pm_CL_grow, an_CL_grow, ct_CL_grow, sl_CL_grow, l_CL_grow⟩, cl := rfl, code := c_CL_grow, cod := ⟨ccl_CL_grow, cdd_CL_grow, vs_CL_grow, ccs_CL_grow, file_CL_grow, tf_CL_grow, dl_CL_grow, fv_CL_grow, fl_CL_grow⟩, cell := ⟨cv_CL_grow, cld_CL_grow, csl_CL_grow, zc_CL_grow⟩, isD := ⟨ic_CL, by simp [PySem.W.clsIn, x_CL]⟩, sub := mm_CL, sup := su_CL_grow, ty := type_fn l_CM_grow, fg := fnIn_fn l_CM_grow, op := op, zs := zs, htop := htop,
      hm := by decide, hks := by rfl, hkc := by rfl, hself := by rfl, arg := ⟨_, rfl, rfl⟩ }, l_CL_grow, ⟨m_CL_grow, y_CL_grow, k_CL_grow⟩, .all fun us hl => match us, hl with | [_, _], _ => rfl⟩
  have k_CL_init := keep_fn l_CL_init
  have y_CL_init := isFn_fn l_CL_init
  have S_CL_init : Lf.SAt l.prog K CL "__init__" "LeapTree.__init__" s_LeapTree___init__ ["self"] f_CM_init := ⟨f_CL_init, cc_CL_init, co_CL_init, .type "function", od_CL_init, dc_CL_init, pm_CL_init, an_CL_init, ct_CL_init, sl_CL_init,
    { fn := ⟨.type "function", od_CL_init, dc_CL_init, pm_CL_init, an_CL_init, ct_CL_init, sl_CL_init, l_CL_init⟩, cl := rfl, code := c_CL_init, cod := ⟨ccl_CL_init, cdd_CL_init, vs_CL_init, ccs_CL_init, file_CL_init, tf_CL_init, dl_CL_init, fv_CL_init, fl_CL_init⟩, cell := ⟨cv_CL_init, cld_CL_init, csl_CL_init, zc_CL_init⟩, isD := ⟨ic_CL, by simp [PySem.W.clsIn, x_CL]⟩, sub := mm_CL, sup := su_CL_init, ty := type_fn l_CM_init, fg := fnIn_fn l_CM_init, op := op, zs := zs, htop := htop,
      hm := by decide, hks := by rfl, hkc := by rfl, hself := by rfl, arg := ⟨_, rfl, rfl⟩ }, l_CL_init, ⟨m_CL_init, y_CL_init, k_CL_init⟩, .all fun us hl => match us, hl with | [_], _ => rfl⟩
  have EN : ErrTxt l.prog K CN fN "NoMake.__init__" _ :=
    { cls := ⟨nmN, qN, NN, bsN, _, snN, subN, abN, colN, ddN, m0N, m1N, m2N, m3N, m5N, xN, by rfl⟩, sa := saN, ga := gaN, gg := ggN, noN := nnN, iC := iiN, tC := type_fn llN, kC := kkN, exC := eeN, veC := veN, tyC := tyN, hdC := hdN, sub := mmN, sup := suN, op := op, zs := zs, htop := htop,
      fn := ⟨.type "function", odN, dcN, pmN, anN, cdaN, ccN, ctN, slN, kdN, p1N, p2N, p3N, p4N, p5N, p6N, q1N, q2N, q3N, q4N, r1N, r2N, cclN, clN, cddN, cldN, vsN, ccsN, cslN, fileN, tfN, llN, ciN, dlN, fvN, flN, zcN, plN⟩ }
  refine ⟨PySem.W.fnOf "law" "law" (defArgs s_law) (defBody s_law) (defScope s_law) .none kV8 dc8 pm8 an8 cd8 ct8, fun s v => .of_eq rfl, fun base _ _ => ?_⟩
  have T : Txt K mg := ⟨PySem.W.mg_none_of X G z_len, PySem.W.mg_none_of X G z_max, PySem.W.mg_none_of X G z_min, PySem.W.mg_none_of X G z_range, PySem.W.mg_none_of X G z_repr, PySem.W.mg_none_of X G z_isinstance, PySem.W.mg_none_of X G z_enumerate, PySem.W.mg_none_of X G z_sorted, PySem.W.mg_none_of X G z_zip, PySem.W.mg_none_of X G z_int, PySem.W.mg_none_of X G z_bool, PySem.W.mg_none_of X G z_list, PySem.W.mg_none_of X G z_dict, ⟨t_MOST_MARKS, PySem.W.mg_of X G i_MOST_MARKS⟩, ⟨t_LABELS, PySem.W.mg_of X G i_LABELS⟩, ⟨t_MOST_MAKES, PySem.W.mg_of X G i_MOST_MAKES⟩⟩
  have RK : Lf.ErrK l.prog K mg CN fN := ⟨EN, PySem.W.mg_of X G aN⟩
  have OC : OrdC K CO := ⟨cl_CO, no_CO__marks, no_CO__labels, no_CO__given, no_CO__times⟩
  have TO : TouC K CT := ⟨cl_CT, no_CT__order, no_CT__marks⟩
  have TC : Lf.TreeC K CL := ⟨cl_CL, no_CL__owns, no_CL__depths, no_CL__on, no_CL__leaps⟩
  have c_wh := ok_whI (P := l.prog) (w := w) (base := base) T d_is_whole
  have c_ww := Lf.ok_whole (P := l.prog) (w := w) (base := base) T d_is_whole
  have many := ok_many (P := l.prog) (w := w) (base := base) T OC M_CO_many
  have need := ok_need T OC c_wh M_CO_need_mark
  have label := ok_label T OC need M_CO_label
  have ahead := ok_ahead T OC label M_CO_ahead
  have labat := ok_labat T OC many M_CO_label_at
  have marks := ok_marks (P := l.prog) (w := w) (base := base) T OC M_CO_marks
  have anew := ok_anew T OC many M_CO_label_anew
  have behind := ok_behind T OC many need labat anew M_CO_behind
  have cO := PySem.W.mg_of X G a_CO
  have mkO : Mk K CO f_CO_init := ⟨mk_CO, m_CO_init, y_CO_init, kp_CO⟩
  have giO := fn_init (P := l.prog) (w := w) (base := base) T OC F_CO_init
  have copied := ok_copied T OC cO mkO B_CO_init giO M_CO_copied
  have tmany := ok_tmany (P := l.prog) (w := w) (base := base) (CO := CO) T TO M_CT_many
  have tneed := ok_tneed T TO c_wh tmany M_CT_need_make
  have mof := ok_mof T TO tneed M_CT_marks_of
  have grow := ok_grow T TO tneed tmany behind M_CT_grow
  have torder := ok_torder T TO copied M_CT_order
  have by_ := ok_by T TO marks M_CT_makes_by
  have coming := ok_coming T TO by_ M_CT_coming
  have leaving := ok_leaving T TO by_ M_CT_leaving
  have isb := ok_isb T TO ahead M_CT_is_beneath
  have within := ok_within T TO tneed isb M_CT_within
  have ben := ok_ben T TO tneed coming isb M_CT_beneath
  have cT := PySem.W.mg_of X G a_CT
  have mkT : Mk K CT f_CT_init := ⟨mk_CT, m_CT_init, y_CT_init, kp_CT⟩
  have giT := fn_tinit T TO cO mkO B_CO_init giO behind F_CT_init
  have tcopied := ok_tcopied T TO cT mkT B_CT_init giT copied M_CT_copied
  have needB := ok_tneedB T RK TO c_ww tmany M_CT_need_make
  have growB := ok_growB T TO needB tmany behind M_CT_grow
  have lmany := Lf.ok_many (P := l.prog) (w := w) (base := base) T TC M_CM_many_CL
  have lneed := Lf.ok_need T TC c_wh lmany M_CM_need_make_CL
  have lline := Lf.ok_line T TC lneed M_CM_line_CL
  have ldepth := Lf.ok_depth T TC lneed M_CM_depth_CL
  have lnear := Lf.ok_near T TC lneed M_CM_nearest_CL
  have lthr := Lf.ok_through (P := l.prog) (w := w) (base := base) T TC M_CL_leaps_through
  have lgrow := Lf.okL_grow T TC lmany lneed lthr F_CM_grow B_CM_grow S_CL_grow
  obtain ⟨fi, fdi, me, bi, Fi⟩ := Lf.okL_init (P := l.prog) (w := w) (base := base) T TC F_CM_init B_CM_init S_CL_init
  have rdL : Lf.Rd CL (Lf.Lw CL) := ⟨fun _ _ _ _ z => z.tr, fun _ _ _ _ z => z.cut, fun N H H' t ow z s => z.same s⟩
  have alike := Lf.ok_alike TC rdL lgrow M_CM_grown_alike_CL
  have cL := PySem.W.mg_of X G a_CL
  have mkL : Mk K CL fi := ⟨mk_CL, me.at_, me.fn, kp_CL⟩
  have lcopied := Lf.ok_copiedL TC cL mkL bi Fi alike M_CL_copied
  have lneedB := Lf.ok_needB T RK TC c_ww lmany M_CM_need_make_CL
  have lgrowB := Lf.okL_growB T TC lmany lneedB lthr F_CM_grow B_CM_grow S_CL_grow
  have c_cell := ok_cell (P := l.prog) (w := w) (base := base) T d__law_cell_at
  have c_box := ok_box (P := l.prog) (w := w) (base := base) T d__law_box
  have c_take := ok_take (P := l.prog) (w := w) (base := base) T d__law_take
  have c_str := ok_stretch T ben coming leaving d__law_stretch_right
  have c_pair := ok_pair T OC within lline coming ldepth lnear mof torder ahead d__law_pair_right
  have c_ref := ok_ref T TO TC RK (exm_self icN tyN eeN ssN) growB lgrowB d__law_refused
  have c_both := ok_both T c_take c_pair c_ref c_str lmany tmany d__law_both_right
  exact ok_law T TO TC F_law cT mkT B_CT_init giT cL mkL bi Fi c_cell c_box c_take c_pair c_both lmany grow lgrow tcopied lcopied lline ben
end K18
open PySem PySem.W PyProof.Rows
set_option maxRecDepth 100000 in
set_option maxHeartbeats 0 in
theorem PySem.Challenge.cw_makeskept_k18_whole_tours_and_trees_holds : PySem.Challenge.rw_makeskept_k18_whole_tours_and_trees.Holds := by
  w_on; o_law; z_head; (case hw => w_witness2)
  k_fill
  refine K18.x_of_o (fun _ => by kernel_rfl) ?_
  refine Gd.walkG (l := PySem.Challenge.rw_makeskept_k18_whole_tours_and_trees) (n := 63) (k := 9) (x := "_law_script") (CX := fun _ => L2.CX0) (sp := fun w => K18.spLaw _) rfl (by decide) rfl ⟨rfl, by decide, by decide⟩ (fun w h Y => Y) ?F (fun _ _ a ns hl _ hS => ⟨a, ns, rfl, hS, hl, fun _ => rfl⟩) (fun _ _ _ _ _ h => h)
  case F =>
    intro w mg fa h KX G hmg
    refine' K18.all_mk KX G hmg ?a0 ?l0 ?c0 ?a1 ?l1 ?c1 ?a2 ?l2 ?c2 ?a3 ?l3 ?c3 ?a4 ?l4 ?c4 ?a5 ?l5 ?c5 ?a6 ?l6 ?c6 ?a7 ?l7 ?c7 ?a8 ?l8 ?c8 ?z_len ?z_max ?z_min ?z_range ?z_repr ?z_isinstance ?z_enumerate ?z_sorted ?z_zip ?z_int ?z_bool ?z_list ?z_dict ?i_MOST_MARKS ?i_LABELS ?i_MOST_MAKES ?a_CO ?pg_CO ?hd_CO ?po_CO ?sa_CO ?no_CO__marks ?no_CO__labels ?no_CO__given ?no_CO__times ?mk_CO ?kp_CO ?m_CO_many ?l_CO_many ?c_CO_many ?m_CO_need_mark ?l_CO_need_mark ?c_CO_need_mark ?m_CO_label ?l_CO_label ?c_CO_label ?m_CO_ahead ?l_CO_ahead ?c_CO_ahead ?m_CO_label_at ?l_CO_label_at ?c_CO_label_at ?m_CO_marks ?l_CO_marks ?c_CO_marks ?m_CO_label_anew ?l_CO_label_anew ?c_CO_label_anew ?m_CO_behind ?l_CO_behind ?c_CO_behind ?m_CO_copied ?l_CO_copied ?c_CO_copied ?m_CO_init ?l_CO_init ?c_CO_init ?a_CT ?pg_CT ?hd_CT ?po_CT ?sa_CT ?no_CT__order ?no_CT__marks ?mk_CT ?kp_CT ?m_CT_many ?l_CT_many ?c_CT_many ?m_CT_need_make ?l_CT_need_make ?c_CT_need_make ?m_CT_grow ?l_CT_grow ?c_CT_grow ?m_CT_marks_of ?l_CT_marks_of ?c_CT_marks_of ?m_CT_order ?l_CT_order ?c_CT_order ?m_CT_makes_by ?l_CT_makes_by ?c_CT_makes_by ?m_CT_coming ?l_CT_coming ?c_CT_coming ?m_CT_leaving ?l_CT_leaving ?c_CT_leaving ?m_CT_is_beneath ?l_CT_is_beneath ?c_CT_is_beneath ?m_CT_within ?l_CT_within ?c_CT_within ?m_CT_beneath ?l_CT_beneath ?c_CT_beneath ?m_CT_copied ?l_CT_copied ?c_CT_copied ?m_CT_init ?l_CT_init ?c_CT_init ?a_CM ?a_CL ?pg_CL ?hd_CL ?po_CL ?sa_CL ?no_CL__owns ?no_CL__depths ?no_CL__on ?no_CL__leaps ?mk_CL ?kp_CL ?m_CM_many_CL ?l_CM_many ?c_CM_many ?m_CM_need_make_CL ?l_CM_need_make ?c_CM_need_make ?m_CM_line_CL ?l_CM_line ?c_CM_line ?m_CM_depth_CL ?l_CM_depth ?c_CM_depth ?m_CM_nearest_CL ?l_CM_nearest ?c_CM_nearest ?m_CM_grown_alike_CL ?l_CM_grown_alike ?c_CM_grown_alike ?m_CM_grow ?l_CM_grow ?c_CM_grow ?m_CM_init ?l_CM_init ?c_CM_init ?m_CL_leaps_through ?l_CL_leaps_through ?c_CL_leaps_through ?m_CL_copied ?l_CL_copied ?c_CL_copied ?op ?zs ?htop ?x_CL ?mm_CL ?m_CL_grow ?l_CL_grow ?c_CL_grow ?dl_CL_grow ?fv_CL_grow ?fl_CL_grow ?zc_CL_grow ?su_CL_grow ?m_CL_init ?l_CL_init ?c_CL_init ?dl_CL_init ?fv_CL_init ?fl_CL_init ?zc_CL_init ?su_CL_init ?aN ?xN ?saN ?gaN ?ggN ?nnN ?iiN ?kkN ?eeN ?veN ?tyN ?hdN ?mmN ?suN ?llN ?ciN ?dlN ?fvN ?flN ?zcN ?plN ?ssN ?icN
    (case a0 => k_is)
    (case l0 => k_is)
    (case c0 => k_is)
    (case a1 => k_is)
    (case l1 => k_is)
    (case c1 => k_is)
    (case a2 => k_is)
    (case l2 => k_is)
    (case c2 => k_is)
    (case a3 => k_is)
    (case l3 => k_is)
    (case c3 => k_is)
    (case a4 => k_is)
    (case l4 => k_is)
    (case c4 => k_is)
    (case a5 => k_is)
    (case l5 => k_is)
    (case c5 => k_is)
    (case a6 => k_is)
    (case l6 => k_is)
    (case c6 => k_is)
    (case a7 => k_is)
    (case l7 => k_is)
    (case c7 => k_is)
    (case a8 => k_is)
    (case l8 => k_is)
    (case c8 => k_is)
    (case z_len => k_is)
    (case z_max => k_is)
    (case z_min => k_is)
    (case z_range => k_is)
    (case z_repr => k_is)
    (case z_isinstance => k_is)
    (case z_enumerate => k_is)
    (case z_sorted => k_is)
    (case z_zip => k_is)
    (case z_int => k_is)
    (case z_bool => k_is)
    (case z_list => k_is)
    (case z_dict => k_is)
    (case i_MOST_MARKS => k_is)
    (case i_LABELS => k_is)
    (case i_MOST_MAKES => k_is)
    (case a_CO => k_is)
    (case pg_CO => k_is)
    (case hd_CO => k_is)
    (case po_CO => k_is)
    (case sa_CO => k_is)
    (case no_CO__marks => k_is)
    (case no_CO__labels => k_is)
    (case no_CO__given => k_is)
    (case no_CO__times => k_is)
    (case mk_CO => k_is)
    (case kp_CO => k_is)
    (case m_CO_many => k_is)
    (case l_CO_many => k_is)
    (case c_CO_many => k_is)
    (case m_CO_need_mark => k_is)
    (case l_CO_need_mark => k_is)
    (case c_CO_need_mark => k_is)
    (case m_CO_label => k_is)
    (case l_CO_label => k_is)
    (case c_CO_label => k_is)
    (case m_CO_ahead => k_is)
    (case l_CO_ahead => k_is)
    (case c_CO_ahead => k_is)
    (case m_CO_label_at => k_is)
    (case l_CO_label_at => k_is)
    (case c_CO_label_at => k_is)
    (case m_CO_marks => k_is)
    (case l_CO_marks => k_is)
    (case c_CO_marks => k_is)
    (case m_CO_label_anew => k_is)
    (case l_CO_label_anew => k_is)
    (case c_CO_label_anew => k_is)
    (case m_CO_behind => k_is)
    (case l_CO_behind => k_is)
    (case c_CO_behind => k_is)
    (case m_CO_copied => k_is)
    (case l_CO_copied => k_is)
    (case c_CO_copied => k_is)
    (case m_CO_init => k_is)
    (case l_CO_init => k_is)
    (case c_CO_init => k_is)
    (case a_CT => k_is)
    (case pg_CT => k_is)
    (case hd_CT => k_is)
    (case po_CT => k_is)
    (case sa_CT => k_is)
    (case no_CT__order => k_is)
    (case no_CT__marks => k_is)
    (case mk_CT => k_is)
    (case kp_CT => k_is)
    (case m_CT_many => k_is)
    (case l_CT_many => k_is)
    (case c_CT_many => k_is)
    (case m_CT_need_make => k_is)
    (case l_CT_need_make => k_is)
    (case c_CT_need_make => k_is)
    (case m_CT_grow => k_is)
    (case l_CT_grow => k_is)
    (case c_CT_grow => k_is)
    (case m_CT_marks_of => k_is)
    (case l_CT_marks_of => k_is)
    (case c_CT_marks_of => k_is)
    (case m_CT_order => k_is)
    (case l_CT_order => k_is)
    (case c_CT_order => k_is)
    (case m_CT_makes_by => k_is)
    (case l_CT_makes_by => k_is)
    (case c_CT_makes_by => k_is)
    (case m_CT_coming => k_is)
    (case l_CT_coming => k_is)
    (case c_CT_coming => k_is)
    (case m_CT_leaving => k_is)
    (case l_CT_leaving => k_is)
    (case c_CT_leaving => k_is)
    (case m_CT_is_beneath => k_is)
    (case l_CT_is_beneath => k_is)
    (case c_CT_is_beneath => k_is)
    (case m_CT_within => k_is)
    (case l_CT_within => k_is)
    (case c_CT_within => k_is)
    (case m_CT_beneath => k_is)
    (case l_CT_beneath => k_is)
    (case c_CT_beneath => k_is)
    (case m_CT_copied => k_is)
    (case l_CT_copied => k_is)
    (case c_CT_copied => k_is)
    (case m_CT_init => k_is)
    (case l_CT_init => k_is)
    (case c_CT_init => k_is)
    (case a_CM => k_is)
    (case a_CL => k_is)
    (case pg_CL => k_is)
    (case hd_CL => k_is)
    (case po_CL => k_is)
    (case sa_CL => k_is)
    (case no_CL__owns => k_is)
    (case no_CL__depths => k_is)
    (case no_CL__on => k_is)
    (case no_CL__leaps => k_is)
    (case mk_CL => k_is)
    (case kp_CL => k_is)
    (case m_CM_many_CL => k_is)
    (case l_CM_many => k_is)
    (case c_CM_many => k_is)
    (case m_CM_need_make_CL => k_is)
    (case l_CM_need_make => k_is)
    (case c_CM_need_make => k_is)
    (case m_CM_line_CL => k_is)
    (case l_CM_line => k_is)
    (case c_CM_line => k_is)
    (case m_CM_depth_CL => k_is)
    (case l_CM_depth => k_is)
    (case c_CM_depth => k_is)
    (case m_CM_nearest_CL => k_is)
    (case l_CM_nearest => k_is)
    (case c_CM_nearest => k_is)
    (case m_CM_grown_alike_CL => k_is)
    (case l_CM_grown_alike => k_is)
    (case c_CM_grown_alike => k_is)
    (case m_CM_grow => k_is)
    (case l_CM_grow => k_is)
    (case c_CM_grow => k_is)
    (case m_CM_init => k_is)
    (case l_CM_init => k_is)
    (case c_CM_init => k_is)
    (case m_CL_leaps_through => k_is)
    (case l_CL_leaps_through => k_is)
    (case c_CL_leaps_through => k_is)
    (case m_CL_copied => k_is)
    (case l_CL_copied => k_is)
    (case c_CL_copied => k_is)
    (case op => k_is)
    (case zs => k_is)
    (case htop => first | rfl | decide +kernel)
    (case x_CL => k_is)
    (case mm_CL => k_is)
    (case m_CL_grow => k_is)
    (case l_CL_grow => k_is)
    (case c_CL_grow => k_is)
    (case dl_CL_grow => k_is)
    (case fv_CL_grow => rfl)
    (case fl_CL_grow => first | rfl | decide +kernel)
    (case zc_CL_grow => k_is)
    (case su_CL_grow => ks_is)
    (case m_CL_init => k_is)
    (case l_CL_init => k_is)
    (case c_CL_init => k_is)
    (case dl_CL_init => k_is)
    (case fv_CL_init => rfl)
    (case fl_CL_init => first | rfl | decide +kernel)
    (case zc_CL_init => k_is)
    (case su_CL_init => ks_is)
    (case aN => k_is)
    (case xN => k_is)
    (case saN => k_is)
    (case gaN => k_is)
    (case ggN => k_is)
    (case nnN => k_is)
    (case iiN => k_is)
    (case kkN => k_is)
    (case eeN => k_is)
    (case veN => k_is)
    (case tyN => k_is)
    (case hdN => k_is)
    (case mmN => k_is)
    (case suN => ks_is)
    (case llN => k_is)
    (case ciN => k_is)
    (case dlN => k_is)
    (case fvN => rfl)
    (case flN => first | rfl | decide +kernel)
    (case zcN => k_is)
    (case plN => rfl)
    (case ssN => k_is)
    (case icN => k_is)

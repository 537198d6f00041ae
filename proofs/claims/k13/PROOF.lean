import PyProof.Rows.All
import Wide.All
import OpenK.AllK
import Wide.FinOn
import HandS.ForMost
import HandS.IsInst
import HandS.TupLe
import PyProof.ReprLen
import KE.KExcLine
import HandS.Exc
import HandS.ExcOwn
import HandS.WordsExc
import KE.KExcIs
import HandS.TryOnly
import HandS.Nested
import KE.KSuper
import HandS.Codes
import HandS.Style
import HandS.Walk
import HandS.SetFor
import HandS.More
import HandS.WordsDict
import KE.RegKSuper
import PySem.Challenge.RW_makeskept_k13_labels_by_the_rule
set_option Elab.async false
set_option linter.all false
set_option maxRecDepth 100000
set_option maxHeartbeats 4000000
/-! A promise of a def that is kept where nothing is being shown (no repr under way), and repr of data under it. -/
namespace Gd
open PySem PySem.Spec PyProof.Rows L2

/-- as FnOk, asked only where no repr is under way -/
structure FnG (P : Program) (w : World) (K : PySem.W.Frag) (mg : Str → Option Value) (base : Heap)
    (CX : CXT) (k : Nat) (f : Addr) (fd : FuncData) (ps : List Str) (sp : Sp) : Prop where
  arity : ∀ vs H Q E, sp vs H Q E → vs.length = ps.length
  go : ∀ (A : Around) (outer : List Env) (s : Shared) (H : Hp) (args : Args) (us : List Value) (vs : List V)
    (Q : VK) (E : XK), A.guards = some [] → Room k A → Env0 P w K mg base A outer s H →
    BindsTo s fd args (ps.zip us) → Vals vs us → sp vs H Q E →
    codeAny (model P w) A (.call (.ref f) args) (CR CX outer P w H s Q E) s

section
variable {P : Program} {w : World} {K : PySem.W.Frag} {mg : Str → Option Value} {base : Heap}
theorem FnG.low {CX : CXT} {j k : Nat} {f : Addr} {fd : FuncData} {ps : List Str} {sp : Sp}
    (F : FnG P w K mg base CX j f fd ps sp) (h : j ≤ k) : FnG P w K mg base CX k f fd ps sp :=
  ⟨F.arity, fun A o s H ar us vs Q E g r => F.go A o s H ar us vs Q E g (r.mono h)⟩
theorem FnG.ofOk {CX : CXT} {k : Nat} {f : Addr} {fd : FuncData} {ps : List Str} {sp : Sp}
    (F : FnOk P w K mg base CX k f fd ps sp) : FnG P w K mg base CX k f fd ps sp :=
  ⟨F.len, fun A o s H ar us vs Q E _ r => F.run A o s H ar us vs Q E r⟩

/-- the rule for a def, told that no repr is under way -/
theorem fnG_of {CX : CXT} {k : Nat} {f : Addr} {name qual : Str} {params : Arguments} {body : List Stmt}
    {scope : Scope} {dV kV doc pm cdv ct oc : Value} {an od : Option Addr} {osl : Array (Option Value)}
    {N ps : List Str} {sp : Sp}
    (lk : K.lookup f = some ⟨oc, od, .func (PySem.W.fnOf name qual params body scope dV kV doc pm an cdv ct), osl⟩)
    (cin : PySem.W.codeIn K cdv qual = true) (S : FnScope N ps scope)
    (ar : ∀ vs H Q E, sp vs H Q E → vs.length = ps.length)
    (bd : ∀ (A : Around) (outer : List Env) (s : Shared) (H : Hp) (vs : List V) (Q : VK) (E : XK),
      A.guards = some [] → Room k (A.deeper (envOfC qual scope s.heap.objs.size f cdv)) → sp vs H Q E →
      ∃ t, PSs (cxOf CX P w K mg base N qual scope f cdv A outer s H E) body t ∧
        t { nx := fun _ H' => Q .non H', rt := Q } (start N vs) H) :
    FnG P w K mg base CX (k + 1) f (PySem.W.fnOf name qual params body scope dV kV doc pm an cdv ct) ps sp := by
  constructor
  · exact ar
  intro A outer s H args us vs Q E hG room env bind rel prem
  have long := ar _ _ _ _ prem
  have kin : K.In s.heap := env.mod.kin.keeps fun b o z => (env.bs b o z).1
  have nl : s.heap.NoLimit := env.mod.nolimit.keeps fun b o z => (env.bs b o z).1
  have kinds : ∀ y ∈ ps.zip us, scope.names.lookup y.1 = some .local ∨
      (scope.names.lookup y.1 = some .cell ∧
        ((cellsFrom (s.heap.objs.size + 1) scope.names []).lookup y.1).isSome = true) := by
    rintro ⟨n, v⟩ hy
    cases S.par n (List.of_mem_zip hy).1 with
    | inl q => exact .inl q
    | inr q => exact .inr ⟨q, PySem.W.cellsFrom_some _ _ _ (.inl q)⟩
  apply codeAny_call_function room.depth (kin _ _ lk) rfl S.co S.gen rfl (PySem.W.codeRec_of kin cin)
  apply bind
  apply wpAny_newFunctionEnv_cells S.kind kinds
  intro en hen s1 x
  subst hen
  refine ⟨nl.keeps x.toInCall.keep, ?_⟩
  apply codeAny_func
  obtain ⟨t, der, rd⟩ := bd A outer s H vs Q E hG (room.deeper _) prem
  have J := inv_start (CX := CX) (E := E) (mg := mg) S room.hd env long rel x
  apply wpAny_mono (der.run [] s1 (start N vs) H _ J rd)
  · intro fl s' hs
    cases fl with
    | ret u =>
      obtain ⟨v, _, H', J', rv, q⟩ := hs
      exact ⟨v, H', J'.os, J'.bare, J'.base, J'.hok, rv, q⟩
    | next =>
      obtain ⟨_, H', J', q⟩ := hs
      exact ⟨.non, H', J'.os, J'.bare, J'.base, J'.hok, rfl, q⟩
    | brk =>
      obtain ⟨_, _, _, q⟩ := hs
      exact q.elim
    | cont =>
      obtain ⟨_, _, _, q⟩ := hs
      exact q.elim
  · intro e s' hs
    exact hs
theorem okG {x qual : Str} {st : Stmt} {f : Addr} {fd : FuncData} {N ps : List Str} {k : Nat} {sp : Sp}
    (F : Fun K x qual st f fd) (S : FnScope N ps (defScope st))
    (ar : ∀ vs H Q E, sp vs H Q E → vs.length = ps.length)
    (bd : ∀ (cdv : Value) (A : Around) (outer : List Env) (s : Shared) (H : Hp) (vs : List V) (Q : VK) (E : XK),
      A.guards = some [] → Room k (A.deeper (envOfC qual (defScope st) s.heap.objs.size f cdv)) → sp vs H Q E →
      ∃ t, PSs (cxOf CX0 P w K mg base N qual (defScope st) f cdv A outer s H E).nox (defBody st) t ∧
        t { nx := fun _ H' => Q .non H', rt := Q } (start N vs) H) :
    FnG P w K mg base CX0 (k + 1) f fd ps sp := by
  obtain ⟨oc, od, kV, doc, pm, an, cdv, ct, osl, rfl, lk, cin⟩ := F.ex
  apply fnG_of lk cin S ar
  intro A outer s H vs Q E hG room prem
  obtain ⟨t, der, rd⟩ := bd cdv A outer s H vs Q E hG room prem
  exact ⟨t, der.nox, rd⟩
end

section
variable {X : Cx} {CX : CXT} {k : Nat} {f : Addr} {fd : FuncData} {ps : List Str} {sp : Sp} {dvs : List V}
  {ds : List Value} {E : XK} {x : Str} {p pos : Pos} {e : Expr} {es : List Expr} {t : TA}
theorem enterG {pins : List (Addr × Obj)} {σ : L2.St} {H : Hp} {s : Shared} {Q : VK} {us : List Value} {vs : List V}
    (F : FnG X.prog X.w X.K X.mg X.base CX k f fd ps sp) (hG : X.A.guards = some []) (hr : Room k X.A)
    (hb : Binds X.K fd ps ds) (hd : Vals dvs ds) (hx : Passes CX X E) (J : Inv X pins σ H s) (rel : Vals vs us)
    (prem : sp (vs ++ dvs) H Q E) :
    wpAny (model X.prog X.w) X.A (call (.ref f) us) (EP X pins σ Q) X.xe s := by
  have rel2 : Vals (vs ++ dvs) (us ++ ds) := rel.append hd
  have long : (us ++ ds).length = ps.length := rel2.length ▸ F.arity _ _ _ _ prem
  apply wpAny_call
  apply codeAny_mono (F.go X.A X.stack s H ⟨us, []⟩ (us ++ ds) (vs ++ dvs) Q E hG hr J.env0 (hb s us J.kIn long)
    rel2 prem)
  intro r s' hq
  match r, hq with
  | .error _, hq => exact hx pins σ H s _ s' J hq
  | .ok (.ret _), hq => exact J.after hq
  | .ok .next, hq => exact hq.elim
  | .ok .brk, hq => exact hq.elim
  | .ok .cont, hq => exact hq.elim
/-- f(e, ..) of a def that keeps its promise where no repr is under way -/
theorem pe_callG (F : FnG X.prog X.w X.K X.mg X.base CX k f fd ps sp) (hG : X.A.guards = some []) (hr : Room k X.A)
    (hg : Gl X x) (hm : X.mg x = some (.ref f)) (hk : PySem.W.keepIn X.K (.ref f) = true) (hb : Binds X.K fd ps ds)
    (hd : Vals dvs ds) (hx : Passes CX X E) (ha : PA X (e :: es) t)
    (hdb : (x == ("__debug__" : Str)) = false := by decide)
    (he : starEach (e :: es) X.env = (false, eval e X.env) :: starEach es X.env := by rfl)
    (hpl : (backTo pos (starEach es X.env)).any (·.1) = false := by rfl) :
    PE X (.Call (.Name x p) (e :: es) [] pos) (tCall sp dvs E t) := by
  constructor
  intro pins s σ H Q J prem
  have arg := ha.run pos pins s σ H _ J prem
  apply wpAny_Call_Name_kw
  apply ld_glob J hg hm (hd := hdb)
  apply PySem.W.callWith_K (h₀ := X.base) J.ok.mod.kin hk (he := he) (hplain := hpl)
  apply thn arg
  rintro us s1 ⟨vs, H1, J1, rel, q⟩
  exact ⟨J1.kIn, enterG F hG hr hb hd hx J1 rel q⟩
end
end Gd
namespace Gd
open PySem PySem.Spec PyProof.Rows L2
section
variable {P : Program} {w : World} {K : PySem.W.Frag} {mg mb : Str → Option Value} {CX : CXT} {k : Nat} {fa a : Addr}
  {fd : FuncData} {x : Str} {sp : Sp} {s₁ : Shared} {vs : List Value} {ns : List Int}
/-- the law's call from one abstract heap that tracks at most the script -/
theorem callOne (kin : K.In s₁.heap) (gl : s₁.heap.Ns mainGlobals mg) (bl : s₁.heap.Ns builtinsNs mb)
    (bb : ∀ x : Str, x ≠ "__name__" → mb x = bootBuiltins x) (nl : s₁.heap.NoLimit) (gn : s₁.gens = #[])
    (at_ : s₁.heap.get? a = some { cls := .type "list", data := .seq vs.toArray }) (room : Room k callerA)
    (F : ∀ base : Heap, K.In base → base.Ns mainGlobals mg → FnG P w K mg base CX k fa fd [x] sp)
    (bind : ∀ (s : Shared) (u : Value), BindsTo s fd ⟨[u], []⟩ [(x, u)])
    (H : Hp) (only : Only H) (prem : sp [.ref a] H (fun v _ => v = .bl true) fun _ _ _ => False)
    (noX : ∀ e s', CX [] H s₁ (fun _ _ _ => False) e s' → False)
    (hok : HOk P w H s₁.heap) (here : ∀ b, H b ≠ none → b = a) (out : H a ≠ none → K.lookup a = none) :
    codeAny (model P w) callerA (.call (.ref fa) ⟨[.ref a], []⟩)
      (fun r s' => r = .ok (.ret (.bool true)) ∧ OldK s₁.heap s'.heap ∧ s'.os = s₁.os ∧ AllBare s'.gens) s₁ := by
  have free : ∀ {b : Addr} {o : Obj} {es : Array DictEntry} {ep : Nat},
      s₁.heap.get? b = some o → o.data = .dict es ep → H b = none := by
    intro b o es ep z dd
    refine Classical.byContradiction fun q => ?_
    have hb := here b q
    rw [hb, at_] at z
    injection z with z
    rw [← z] at dd
    injection dd
  have nsOf : ∀ {b : Addr} {m : Str → Option Value}, s₁.heap.Ns b m → (hidT s₁.heap H).Ns b m := by
    rintro b m ⟨o, es, ep, z, dd, r⟩
    exact ⟨o, es, ep, hidT_get z (free z dd), dd, r⟩
  have kinB : K.In (hidT s₁.heap H) := by
    intro b o z
    refine hidT_get (kin b o z) (Classical.byContradiction fun q => ?_)
    have hb := here b q
    rw [hb] at z q
    rw [out q] at z
    injection z
  have modB : Mod K mg (hidT s₁.heap H) := by
    obtain ⟨mc, l1, l2⟩ := nl
    exact ⟨kinB, nsOf gl, ⟨mb, nsOf bl, bb⟩, ⟨mc, nsOf l1, l2⟩⟩
  have env : Env0 P w K mg (hidT s₁.heap H) callerA [] s₁ H := by
    refine ⟨rfl, modB, fun b o z => of_hidT z, Nat.le_of_eq (hidT_size _ _), trivial, ?_, hok, .of_eq gn⟩
    intro b hb
    exact absurd (show b ∈ ([] : List Addr) from hb) List.not_mem_nil
  have ran := (F _ kinB (nsOf gl)).go callerA [] s₁ H ⟨[.ref a], []⟩ [.ref a] [.ref a] _ _ rfl room env
    (bind s₁ (.ref a)) (.cons rfl .nil) prem
  apply codeAny_mono ran
  intro r s' q
  match r, q with
  | .error _, q => exact (noX _ _ q).elim
  | .ok .next, q => exact q.elim
  | .ok .brk, q => exact q.elim
  | .ok .cont, q => exact q.elim
  | .ok (.ret u), q =>
    obtain ⟨v, H', os, bare, un, hok', rv, ev⟩ := q
    have ev' : v = .bl true := ev
    subst ev'
    have hu : u = Value.bool true := rv
    subst hu
    refine ⟨rfl, ?_, os, bare⟩
    apply OldK.of_keep
    intro b o z
    have nob : b ∉ ([] : List Addr) := List.not_mem_nil
    cases q : H b with
    | none => exact un.keep b o z q nob nob
    | some u =>
      cases only b with
      | inl z0 =>
        rw [q] at z0
        injection z0
      | inr z0 =>
        obtain ⟨ob, xs, z1⟩ := z0
        have y1 := (hok b _ z1).1
        have y2 := (hok' b _ (un.frzs b ob _ z1)).1
        rw [z] at y1
        injection y1 with y1
        rw [y1]
        exact y2
theorem callG (kin : K.In s₁.heap) (gl : s₁.heap.Ns mainGlobals mg) (bl : s₁.heap.Ns builtinsNs mb)
    (bb : ∀ x : Str, x ≠ "__name__" → mb x = bootBuiltins x) (nl : s₁.heap.NoLimit) (gn : s₁.gens = #[])
    (at_ : s₁.heap.get? a = some { cls := .type "list", data := .seq vs.toArray }) (hin : IntsAre vs ns)
    (short : ns.length ≤ sizeLine) (room : Room k callerA)
    (F : ∀ base : Heap, K.In base → base.Ns mainGlobals mg → FnG P w K mg base CX k fa fd [x] sp)
    (bind : ∀ (s : Shared) (u : Value), BindsTo s fd ⟨[u], []⟩ [(x, u)])
    (prem : ∀ H : Hp, Only H → SqL K H a (ns.map V.int) → sp [.ref a] H (fun v _ => v = .bl true) fun _ _ _ => False)
    (noX : ∀ H e s', CX [] H s₁ (fun _ _ _ => False) e s' → False) :
    codeAny (model P w) callerA (.call (.ref fa) ⟨[.ref a], []⟩)
      (fun r s' => r = .ok (.ret (.bool true)) ∧ OldK s₁.heap s'.heap ∧ s'.os = s₁.os ∧ AllBare s'.gens) s₁ := by
  have rv := vals_ints hin
  have lens := hin.length
  cases hk : K.lookup a with
  | some o =>
    have z := kin a o hk
    rw [at_] at z
    injection z with z
    subst z
    have only : Only (fun _ => none) := fun _ => .inl rfl
    refine callOne kin gl bl bb nl gn at_ room F bind (fun _ => none) only (prem _ only ?_) (noX _)
      (fun b u z => ?_) (fun b z => absurd rfl z) fun z => absurd rfl z
    · refine .inr ⟨_, vs.toArray, _, hk, rfl, rfl, rfl, ?_, ?_⟩
      · rw [List.size_toArray, lens]
        exact short
      · simpa using rv
    · have z' : (none : Option HO) = some u := z
      injection z'
  | none =>
    let T : HO := .frz { cls := .type "list", data := .seq vs.toArray } (.lst (ns.map V.int))
    have only : Only (fun b => if b = a then some T else none) := fun b => by
      by_cases hb : b = a
      · exact .inr ⟨_, _, if_pos hb⟩
      · exact .inl (if_neg hb)
    refine callOne kin gl bl bb nl gn at_ room F bind (fun b => if b = a then some T else none) only
      (prem _ only (.inl (.inr ⟨{ cls := .type "list", data := .seq vs.toArray }, if_pos rfl⟩))) (noX _)
      (fun b u z => ?_) (fun b z => ?_) fun _ => hk
    · by_cases hb : b = a
      · have z' : some T = some u := (if_pos hb).symm.trans z
        injection z' with z'
        subst z'
        subst hb
        refine ⟨at_, ?_, vs, _, rv, at_⟩
        rw [List.length_map]
        exact short
      · have z' : (none : Option HO) = some u := (if_neg hb).symm.trans z
        injection z'
    · refine Classical.byContradiction fun hb => z (if_neg hb)
end
/-- the goal that k_head leaves, from the law's promise under FnG -/
theorem walkG {l : PySem.W.OpenLaw} {n k : Nat} {q : Program} {loose : List Str} {XP : (Str → Option Value) → Heap → Prop}
    {YP : World → Heap → Prop} {d : DefRec} {K : Params → PySem.W.Frag} {CX : World → CXT} {sp : World → Sp} {x : Str}
    (most : l.most = some n) (line : n ≤ sizeLine) (nod : d.params.defaults = []) (room : Room k callerA)
    (kin : ∀ (w : World) (h : Heap), YP w h → (K w.params).In h)
    (F : ∀ (w : World) (mg : Str → Option Value) (fa : Addr) (h : Heap),
      (K w.params).In h → h.Ns mainGlobals mg → mg d.name = some (.ref fa) →
      ∃ fd : FuncData, (∀ (s : Shared) (u : Value), BindsTo s fd ⟨[u], []⟩ [(x, u)]) ∧
        ∀ base : Heap, (K w.params).In base → base.Ns mainGlobals mg →
          FnG l.prog w (K w.params) mg base (CX w) k fa fd [x] (sp w))
    (prem : ∀ (w : World) (H : Hp) (a : Addr) (ns : List Int), ns.length ≤ n → Only H →
      SqL (K w.params) H a (ns.map V.int) → sp w [.ref a] H (fun v _ => v = .bl true) fun _ _ _ => False)
    (noX : ∀ (w : World) (H : Hp) (s : Shared) (e : Value) (s' : Shared),
      CX w [] H s (fun _ _ _ => False) e s' → False) :
    PySem.W.WalkO q loose XP YP l.row.toRowW d [] (fun f vs => PySem.call f vs) := by
  apply Att.attach_call most nod
  intro w s₀ s₁ mg mb fa o pm cd doc a vs ns G Y ho hd hcd hmg hobj hints hlen hg
  have kx := kin w _ Y
  obtain ⟨fd, hb, hF⟩ := F w mg fa _ kx G.T.g hmg
  refine callG kx G.T.g G.T.b G.T.builtins G.T.nolimit hg hobj hints (Nat.le_trans hlen line) room hF hb ?_ ?_
  · intro H hO hS
    exact prem w H a ns hlen hO hS
  · intro H e s'
    exact noX w H s₁ e s'
end Gd
namespace Gd
open PySem PySem.Spec PyProof.Rows L2
/-- plain data, or an empty dict -/
inductive D1 (K : PySem.W.Frag) (H : Hp) : V → PyData → Prop
  | dp {v : V} {d : PyData} (h : Dp K H v d) : D1 K H v d
  | emp {a : Addr} (h : H a = some (.dK [])) : D1 K H (.ref a) (.dict [])
inductive D1s (K : PySem.W.Frag) (H : Hp) : List V → List PyData → Prop
  | nil : D1s K H [] []
  | cons {v : V} {vs : List V} {d : PyData} {ds : List PyData} : D1 K H v d → D1s K H vs ds → D1s K H (v :: vs) (d :: ds)
/-- such, or a list or a tuple of such -/
inductive D2 (K : PySem.W.Frag) (H : Hp) : V → PyData → Prop
  | d1 {v : V} {d : PyData} (h : D1 K H v d) : D2 K H v d
  | lst {a : Addr} {xs : List V} {ds : List PyData} : SqL K H a xs → D1s K H xs ds → D2 K H (.ref a) (.list ds)
  | tup {a : Addr} {xs : List V} {ds : List PyData} : SqT K H a xs → D1s K H xs ds → D2 K H (.ref a) (.tuple ds)

mutual
theorem noDict {K : PySem.W.Frag} {H : Hp} : ∀ {v : V} {d : PyData}, Dp K H v d → d.hasDict = false
  | _, _, .non => by simp only [PyData.hasDict]
  | _, _, .bl _ => by simp only [PyData.hasDict]
  | _, _, .int _ => by simp only [PyData.hasDict]
  | _, _, .str _ => by simp only [PyData.hasDict]
  | _, _, .lst _ ha => by
    simp only [PyData.hasDict]
    exact noDicts ha
  | _, _, .tup _ ha => by
    simp only [PyData.hasDict]
    exact noDicts ha
theorem noDicts {K : PySem.W.Frag} {H : Hp} : ∀ {vs : List V} {ds : List PyData}, DpAll K H vs ds → PyData.hasDictAll ds = false
  | _, _, .nil => by simp only [PyData.hasDictAll]
  | _, _, .cons h1 h2 => by simp only [PyData.hasDictAll, noDict h1, noDicts h2, Bool.or_self]
end

section
variable {X : Cx} {pins : List (Addr × Obj)} {σ : L2.St} {H : Hp} {s : Shared}
theorem D1.rd (I : Inv X pins σ H s) {v : V} {d : PyData} {u : Value} (h : D1 X.K H v d) (r : RelV v u) :
    ∃ as, Reads s.heap u d as ∧ (d.hasDict = true → sysModules ∉ as) := by
  cases h with
  | dp h =>
    obtain ⟨as, q⟩ := Dp.reads I d v u h r
    exact ⟨as, q, PyData.noDict_hsm (noDict h)⟩
  | @emp a h =>
    cases (show u = Value.ref a from r)
    obtain ⟨_, hs, vs, kv, o, es, ep, q⟩ := (show ObjOk X.prog X.w H s.heap a (.dK []) from I.hok a _ h)
    cases kv
    obtain ⟨e1, e2, e3, e4⟩ := q
    have e5 : es.toList = [] := by
      have e6 := e4.2.1
      generalize es.toList = l at e6 ⊢
      cases e6
      rfl
    refine ⟨_, Reads.dict (kvs := []) (as := []) (bs := []) e1 e2.1 e3 ?_ ?_, fun _ => ?_⟩
    · rw [e5]
      exact .nil
    · rw [e5]
      exact .nil
    · intro z
      have z' : sysModules = a := by simpa using z
      rw [← z'] at hs
      simp at hs
theorem D1s.rd (I : Inv X pins σ H s) : ∀ {vs : List V} {ds : List PyData} {us : List Value}, D1s X.K H vs ds → Vals vs us →
    ∃ as, ReadsAll s.heap us ds as
  | _, _, _, .nil, .nil => ⟨_, .nil⟩
  | _, _, _, .cons h1 h2, .cons r1 r2 => by
    obtain ⟨as, q1, _⟩ := h1.rd I r1
    obtain ⟨bs, q2⟩ := D1s.rd I h2 r2
    exact ⟨_, .cons q1 q2⟩
theorem D1.one (I : Inv X pins σ H s) {v : V} {d : PyData} {u : Value} (h : D1 X.K H v d) (r : RelV v u)
    (hs : d.showable = true) (hz : d.shown.length ≤ sizeLine) :
    ∃ bs, ReadAtMost s.heap d.depth bs ∧ ReprK X.prog X.w bs s.heap d.depth u d.shown := by
  obtain ⟨as, q, hm⟩ := h.rd I r
  exact ReprK.of_reads q hs hm hz
theorem D1s.each (I : Inv X pins σ H s) {n : Nat} : ∀ {vs : List V} {ds : List PyData} {us : List Value}, D1s X.K H vs ds → Vals vs us →
    PyData.showableAll ds = true → (∀ t ∈ PyData.shownAll ds, t.length ≤ sizeLine) → PyData.depthAll ds ≤ n →
    ∃ bs, ReadAtMost s.heap n bs ∧ ReprAllK X.prog X.w bs s.heap n us (PyData.shownAll ds)
  | _, _, _, .nil, .nil, _, _, _ => ⟨[], (fun _ z => nomatch z), by simp only [PyData.shownAll]; exact .nil⟩
  | _, _, _, .cons (d := d) (ds := ds) h1 h2, .cons r1 r2, hs, hz, hn => by
    have hs' : d.showable = true ∧ PyData.showableAll ds = true := by simpa [PyData.showableAll] using hs
    simp only [PyData.depthAll] at hn
    simp only [PyData.shownAll] at hz ⊢
    obtain ⟨b1, m1, k1⟩ := h1.one I r1 hs'.1 (hz _ List.mem_cons_self)
    obtain ⟨b2, m2, k2⟩ := D1s.each I h2 r2 hs'.2 (fun t ht => hz t (List.mem_cons_of_mem _ ht)) (by omega : PyData.depthAll ds ≤ n)
    refine ⟨b1 ++ b2, (m1.mono (by omega)).append m2, .cons ((k1.more fun b hb => List.mem_append_left _ hb).level_le (by omega)) (k2.more_le (fun b hb => List.mem_append_right _ hb) (Nat.le_refl _))⟩
end

/-- repr of such data where no repr is under way -/
def rRepr (K : PySem.W.Frag) : List V → Hp → VK → Prop := fun xs H Q => ∃ v d, xs = [v] ∧ D2 K H v d ∧ d.showable = true ∧
  d.shown.length ≤ sizeLine ∧ d.depth ≤ 60 ∧ Q (.str d.shown) H
section
variable {X : Cx}
theorem call_repr (hG : X.A.guards = some []) (hu : X.A.units + 64 < cLine) : CallR X (.builtin "repr") (rRepr X.K) := by
  intro pins s σ H xs us Q I rel h
  obtain ⟨v, d, rfl, hd, hs, hz, hdep, q⟩ := h
  obtain ⟨u, rfl, r⟩ := vals1 rel
  cases hd with
  | d1 h1 =>
    cases h1 with
    | dp hp =>
      cases hp with
      | non =>
        cases (show u = Value.none from r)
        simp only [PyData.shown] at q
        exact PySem.P.repr_of_none ⟨.str _, H, I.tok _, ⟨_, rfl⟩, q⟩
      | bl b =>
        cases (show u = Value.bool b from r)
        simp only [PyData.shown] at q
        exact PySem.P.repr_of_bool ⟨.str _, H, I.tok _, ⟨_, rfl⟩, q⟩
      | int i =>
        obtain ⟨t, rfl⟩ := (show ∃ t, u = Value.int i t from r)
        simp only [PyData.shown] at q
        exact PySem.P.repr_of_int (by simpa [PyData.showable] using hs) ⟨.str _, H, I.tok _, ⟨_, rfl⟩, q⟩
      | str x =>
        obtain ⟨t, rfl⟩ := (show ∃ t, u = Value.str x t from r)
        simp only [PyData.shown] at q hz
        exact PySem.P.repr_of_str ⟨.str _, H, I.tok _, ⟨_, rfl⟩, q⟩ hz
      | @lst a ys ds hl ha =>
        cases (show u = Value.ref a from r)
        obtain ⟨as, rd, hm⟩ := (D1.dp (.lst hl ha) : D1 X.K H (.ref a) (.list ds)).rd I rfl
        exact repr_of_reads' rd hs hm hG (by omega) (fun _ _ z => z) (fun h' u tk hk => ⟨.str _, H, I.kept hk, ⟨_, rfl⟩, q⟩) hz
      | @tup a ys ds hl ha =>
        cases (show u = Value.ref a from r)
        obtain ⟨as, rd, hm⟩ := (D1.dp (.tup hl ha) : D1 X.K H (.ref a) (.tuple ds)).rd I rfl
        exact repr_of_reads' rd hs hm hG (by omega) (fun _ _ z => z) (fun h' u tk hk => ⟨.str _, H, I.kept hk, ⟨_, rfl⟩, q⟩) hz
    | @emp a ha =>
      cases (show u = Value.ref a from r)
      obtain ⟨as, rd, hm⟩ := (D1.emp ha : D1 X.K H (.ref a) (.dict [])).rd I rfl
      exact repr_of_reads' rd hs hm hG (by omega) (fun _ _ z => z) (fun h' u tk hk => ⟨.str _, H, I.kept hk, ⟨_, rfl⟩, q⟩) hz
  | @lst a ys ds hl ha =>
    cases (show u = Value.ref a from r)
    obtain ⟨its, rv, ⟨o, n, ho, hc, _, ho2⟩, _⟩ := I.list hl
    obtain ⟨as, rda⟩ := ha.rd I rv
    have hz' : (listText (PyData.shownAll ds)).length ≤ sizeLine := by simpa only [PyData.shown] using hz
    simp only [PyData.depth] at hdep
    obtain ⟨bs, hb, hk⟩ := ha.each I rv (by simpa [PyData.showable] using hs) (fun t ht => Nat.le_trans (listText_mem_le ht) hz') (Nat.le_refl _)
    have hna : a ∉ bs := not_mem_of_deeper (.list ho hc ho2 rda) (by simp only [PyData.depth]; omega) hb
    simp only [PyData.shown] at q
    have ty : s.TypeIs (.ref a) "list" := ⟨o, ho, hc⟩
    have fin : ∀ h' u tk, (∀ b o, s.heap.get? b = some o → h'.get? b = some o) →
        EP X pins σ Q (.str (listText (PyData.shownAll ds)) u) { s with heap := h', toks := tk } :=
      fun h' u tk hk => ⟨.str _, H, I.kept hk, ⟨_, rfl⟩, q⟩
    refine call_repr_slot (by omega) ty PySem.F.slot_list_repr.toG ?_
    cases its with
    | nil =>
      cases rda
      simp only [PyData.shownAll, listText_nil] at fin
      exact call_list_repr_empty ty ho ho2 ⟨_, _, rfl, fin s.heap _ _ fun _ _ e => e⟩
    | cons x l =>
      exact call_list_reprK ho hc ho2 hna (by simpa using hk.length_eq) (fun i y e => hk.item i y (by simpa using e)) hG
        (fun b _ => Clear.nil b) (by show X.A.units + 1 + (_ + 1) < cLine; omega) (fun _ _ z => z) (fun h' u tk hk => ⟨_, _, rfl, fin h' u tk hk⟩) hz'
  | @tup a ys ds hl ha =>
    cases (show u = Value.ref a from r)
    obtain ⟨its, rv, ⟨o, ho, hc, n, ho2⟩, _⟩ := I.tuple hl
    obtain ⟨as, rda⟩ := ha.rd I rv
    have hz' : (tupleText (PyData.shownAll ds)).length ≤ sizeLine := by simpa only [PyData.shown] using hz
    simp only [PyData.depth] at hdep
    obtain ⟨bs, hb, hk⟩ := ha.each I rv (by simpa [PyData.showable] using hs) (fun t ht => Nat.le_trans (tupleText_mem_le ht) hz') (Nat.le_refl _)
    have hna : a ∉ bs := not_mem_of_deeper (.tuple ho hc ho2 rda) (by simp only [PyData.depth]; omega) hb
    simp only [PyData.shown] at q
    have ty : s.TypeIs (.ref a) "tuple" := ⟨o, ho, hc⟩
    refine call_repr_slot (by omega) ty PySem.F.slot_tuple_repr ?_
    exact call_tuple_reprK ho hc ho2 hna (by simpa using hk) hG (fun b _ => Clear.nil b) (by show X.A.units + 1 + (_ + 1) < cLine; omega) (fun _ _ z => z)
      (fun h' u tk hk => ⟨_, _, rfl, ⟨.str _, H, I.kept hk, ⟨_, rfl⟩, q⟩⟩) hz'
end
end Gd
namespace Gd
open PySem PySem.Spec PyProof.Rows L2
/-- a def of the top, with its name -/
structure DefAt (K : PySem.W.Frag) (mg : Str → Option Value) (x : Str) (st : Stmt) (ps : List Str) : Prop where
  ex : ∃ (f : Addr) (fd : FuncData), Fun K x x st f fd ∧ mg x = some (.ref f) ∧ Binds K fd ps []
/-- a def by its name, its promise kept where no repr is under way -/
structure CalG (P : Program) (w : World) (K : PySem.W.Frag) (mg : Str → Option Value) (base : Heap) (k : Nat) (x : Str) (sp : Sp) : Prop where
  ex : ∃ (f : Addr) (fd : FuncData) (ps : List Str), FnG P w K mg base CX0 k f fd ps sp ∧ mg x = some (.ref f) ∧
    PySem.W.keepIn K (.ref f) = true ∧ Binds K fd ps []
section
variable {P : Program} {w : World} {K : PySem.W.Frag} {mg : Str → Option Value} {base : Heap}
theorem DefAt.cal {x : Str} {st : Stmt} {N ps : List Str} {k : Nat} {sp : Sp} (D : DefAt K mg x st ps) (S : FnScope N ps (defScope st))
    (ar : ∀ vs H Q E, sp vs H Q E → vs.length = ps.length)
    (bd : ∀ (f : Addr) (cdv : Value) (A : Around) (outer : List Env) (s : Shared) (H : Hp) (vs : List V) (Q : VK) (E : XK),
      A.guards = some [] → Room k (A.deeper (envOfC x (defScope st) s.heap.objs.size f cdv)) → sp vs H Q E →
      ∃ t, PSs (cxOf CX0 P w K mg base N x (defScope st) f cdv A outer s H E).nox (defBody st) t ∧
        t { nx := fun _ H' => Q .non H', rt := Q } (start N vs) H) : CalG P w K mg base (k + 1) x sp := by
  obtain ⟨f, fd, F, m, b⟩ := D.ex
  exact ⟨f, fd, ps, okG F S ar (bd f), m, F.kp, b⟩
theorem DefAt.mk' {X : K.In base} {x : Str} {st : Stmt} {ps : List Str} {f : Addr} {oc : Value} {od an : Option Addr} {osl : Array (Option Value)} {kV doc pm cdv ct : Value}
    (m : mg x = some (.ref f))
    (l : K.lookup f = some ⟨oc, od, .func (PySem.W.fnOf x x (defArgs st) (defBody st) (defScope st) .none kV doc pm an cdv ct), osl⟩)
    (c : PySem.W.codeIn K cdv x = true) (k : PySem.W.keepIn K (.ref f) = true)
    (b : ∀ (kV doc pm : Value) (an : Option Addr) (cdv ct : Value) (us : List Value), us.length = ps.length →
      bindArgs (PySem.W.fnOf x x (defArgs st) (defBody st) (defScope st) .none kV doc pm an cdv ct) ⟨us, []⟩ = pure (ps.zip us)) :
    DefAt K mg x st ps := by
  have F := fun_mk (st := st) l c k
  exact ⟨f, _, F, m, F.binds b⟩
end
section
variable {X : Cx} {k : Nat} {sp : Sp} {x : Str} {p pos : Pos} {e : Expr} {es : List Expr} {t : TA}
theorem pe_g (c : CalG X.prog X.w X.K X.mg X.base k x sp) (hG : X.A.guards = some []) (hr : Room k X.A) (hg : Gl X x)
    (ha : PA X (e :: es) t) (hdb : (x == ("__debug__" : Str)) = false := by decide)
    (he : starEach (e :: es) X.env = (false, eval e X.env) :: starEach es X.env := by rfl)
    (hpl : (backTo pos (starEach es X.env)).any (·.1) = false := by rfl) :
    PE X (.Call (.Name x p) (e :: es) [] pos) (tCall sp [] E0 t) := by
  obtain ⟨f, fd, ps, F, m, kp, b⟩ := c.ex
  exact pe_callG F hG hr hg m kp b .nil pass0 ha hdb he hpl
/-- a module's constant, a whole number -/
def GInt (mg : Str → Option Value) (x : Str) (n : Int) : Prop := ∃ t, mg x = some (.int n t)
theorem pe_gi {n : Int} (hg : Gl X x) (h : GInt X.mg x n) (hd : (x == ("__debug__" : Str)) = false := by decide) : PE X (.Name x pos) (tC (.int n)) := by
  obtain ⟨t, h⟩ := h
  exact pe_glob hg h ⟨t, rfl⟩ hd
/-- a module's constant, a text -/
def GStr (mg : Str → Option Value) (x : Str) (z : Str) : Prop := ∃ t, mg x = some (.str z t)
theorem pe_gs {z : Str} (hg : Gl X x) (h : GStr X.mg x z) (hd : (x == ("__debug__" : Str)) = false := by decide) : PE X (.Name x pos) (tC (.str z)) := by
  obtain ⟨t, h⟩ := h
  exact pe_glob hg h ⟨t, rfl⟩ hd
theorem hu64 {A : Around} (hr : Room k A) : A.units + 64 < cLine := by
  have := hr.un
  omega
/-- x is True, x is False, for any x -/
def isB (x : V) (b : Bool) : Bool := match x with
  | .bl a => a == b
  | _ => false
theorem op_isB : OpR X (compareOp .Is) (fun x y H Q => ∃ b, y = .bl b ∧ Q (.bl (isB x b)) H) := by
  intro pins s σ H x y v u Q I rx ry h
  obtain ⟨b, rfl, q⟩ := h
  cases (show u = Value.bool b from ry)
  cases x with
  | non =>
    cases (show v = Value.none from rx)
    exact wpAny_is_other rfl (fun z => nomatch z) ⟨.bl false, H, I, rfl, q⟩
  | bl a =>
    cases (show v = Value.bool a from rx)
    by_cases e : a = b
    · subst e
      refine wpAny_is_self rfl ⟨.bl true, H, I, rfl, ?_⟩
      simpa [isB] using q
    · refine wpAny_is_other rfl (fun z => e (Value.bool.inj z)) ⟨.bl false, H, I, rfl, ?_⟩
      have e2 : isB (.bl a) b = false := beq_eq_false_iff_ne.mpr e
      rw [e2] at q
      exact q
  | int i =>
    obtain ⟨t, rfl⟩ := (show ∃ t, v = Value.int i t from rx)
    exact wpAny_is_other rfl (fun z => nomatch z) ⟨.bl false, H, I, rfl, q⟩
  | str i =>
    obtain ⟨t, rfl⟩ := (show ∃ t, v = Value.str i t from rx)
    exact wpAny_is_other rfl (fun z => nomatch z) ⟨.bl false, H, I, rfl, q⟩
  | byt i =>
    obtain ⟨t, rfl⟩ := (show ∃ t, v = Value.bytes i t from rx)
    exact wpAny_is_other rfl (fun z => nomatch z) ⟨.bl false, H, I, rfl, q⟩
  | flt i =>
    obtain ⟨t, rfl⟩ := (show ∃ t, v = Value.float i t from rx)
    exact wpAny_is_other rfl (fun z => nomatch z) ⟨.bl false, H, I, rfl, q⟩
  | ref i =>
    cases (show v = Value.ref i from rx)
    exact wpAny_is_other rfl (fun z => nomatch z) ⟨.bl false, H, I, rfl, q⟩
  | ty i =>
    cases (show v = Value.type i from rx)
    exact wpAny_is_other rfl (fun z => nomatch z) ⟨.bl false, H, I, rfl, q⟩
theorem op_isntB : OpR X (compareOp .IsNot) (fun x y H Q => ∃ b, y = .bl b ∧ Q (.bl (!isB x b)) H) := by
  intro pins s σ H x y v u Q I rx ry h
  obtain ⟨b, rfl, q⟩ := h
  cases (show u = Value.bool b from ry)
  cases x with
  | non =>
    cases (show v = Value.none from rx)
    exact wpAny_isNot_other rfl (fun z => nomatch z) ⟨.bl true, H, I, rfl, q⟩
  | bl a =>
    cases (show v = Value.bool a from rx)
    by_cases e : a = b
    · subst e
      refine wpAny_isNot_self rfl ⟨.bl false, H, I, rfl, ?_⟩
      simpa [isB] using q
    · refine wpAny_isNot_other rfl (fun z => e (Value.bool.inj z)) ⟨.bl true, H, I, rfl, ?_⟩
      have e2 : isB (.bl a) b = false := beq_eq_false_iff_ne.mpr e
      rw [e2] at q
      exact q
  | int i =>
    obtain ⟨t, rfl⟩ := (show ∃ t, v = Value.int i t from rx)
    exact wpAny_isNot_other rfl (fun z => nomatch z) ⟨.bl true, H, I, rfl, q⟩
  | str i =>
    obtain ⟨t, rfl⟩ := (show ∃ t, v = Value.str i t from rx)
    exact wpAny_isNot_other rfl (fun z => nomatch z) ⟨.bl true, H, I, rfl, q⟩
  | byt i =>
    obtain ⟨t, rfl⟩ := (show ∃ t, v = Value.bytes i t from rx)
    exact wpAny_isNot_other rfl (fun z => nomatch z) ⟨.bl true, H, I, rfl, q⟩
  | flt i =>
    obtain ⟨t, rfl⟩ := (show ∃ t, v = Value.float i t from rx)
    exact wpAny_isNot_other rfl (fun z => nomatch z) ⟨.bl true, H, I, rfl, q⟩
  | ref i =>
    cases (show v = Value.ref i from rx)
    exact wpAny_isNot_other rfl (fun z => nomatch z) ⟨.bl true, H, I, rfl, q⟩
  | ty i =>
    cases (show v = Value.type i from rx)
    exact wpAny_isNot_other rfl (fun z => nomatch z) ⟨.bl true, H, I, rfl, q⟩
end
/-! names of the built-ins -/
theorem boot_len_ : bootBuiltins "len" = some (.builtin "len") := by decide +kernel
theorem boot_max_ : bootBuiltins "max" = some (.builtin "max") := by decide +kernel
theorem boot_min_ : bootBuiltins "min" = some (.builtin "min") := by decide +kernel
theorem boot_abs_ : bootBuiltins "abs" = some (.builtin "abs") := by decide +kernel
theorem boot_all_ : bootBuiltins "all" = some (.builtin "all") := by decide +kernel
theorem boot_repr_ : bootBuiltins "repr" = some (.builtin "repr") := by decide +kernel
theorem boot_isinstance_ : bootBuiltins "isinstance" = some (.builtin "isinstance") := by decide +kernel
theorem boot_int_ : bootBuiltins "int" = some (.type "int") := by decide +kernel
theorem boot_bool_ : bootBuiltins "bool" = some (.type "bool") := by decide +kernel
theorem boot_str_ : bootBuiltins "str" = some (.type "str") := by decide +kernel
theorem boot_list_ : bootBuiltins "list" = some (.type "list") := by decide +kernel
theorem boot_tuple_ : bootBuiltins "tuple" = some (.type "tuple") := by decide +kernel
theorem boot_dict_ : bootBuiltins "dict" = some (.type "dict") := by decide +kernel

/-! ### the box of a cell: what is drawn of it is any number below the bound -/
def BoxAt (H : Hp) (b : Addr) : Prop := ∃ x y z : Int, 0 ≤ x ∧ 0 ≤ y ∧ y < 2147483629 ∧ H b = some (.lst [.int x, .int y, .int z])
/-- all but the box is kept -/
def Kp (b : Addr) (H H' : Hp) : Prop := ∀ c o, c ≠ b → H c = some o → H' c = some o
theorem Kp.refl {b : Addr} {H : Hp} : Kp b H H := fun _ _ _ z => z
theorem Kp.trans {b : Addr} {H H1 H2 : Hp} (h : Kp b H H1) (k : Kp b H1 H2) : Kp b H H2 := fun c o n z => k c o n (h c o n z)
theorem Kp.upd {b p : Addr} {H H' : Hp} {o : HO} (h : Kp b H H') (n : H' p = none) : Kp b H (upd H' p o) := fun c u hc z => by
  have z2 := h c u hc z
  rw [upd_ne (ne_of_none z2 n)]
  exact z2
theorem BoxAt.upd {b p : Addr} {H : Hp} {o : HO} (h : BoxAt H b) (n : H p = none) : BoxAt (L2.upd H p o) b := by
  obtain ⟨x, y, z, h1, h2, h3, h4⟩ := h
  refine ⟨x, y, z, h1, h2, h3, ?_⟩
  rw [upd_ne (ne_of_none h4 n)]
  exact h4
theorem BoxAt.ne {b p : Addr} {H : Hp} (h : BoxAt H b) (n : H p = none) : p ≠ b := by
  obtain ⟨x, y, z, _, _, _, h4⟩ := h
  exact (ne_of_none h4 n).symm
def spTake : Sp := fun vs H Q _ => ∃ (b : Addr) (m : Int), vs = [.ref b, .int m] ∧ BoxAt H b ∧ 0 < m ∧ m ≤ 1000000000 ∧
  ∀ (d : Int) (H' : Hp), 0 ≤ d → d < m → BoxAt H' b → (∀ c, c ≠ b → H' c = H c) → Q (.int d) H'
def spCell (K : PySem.W.Frag) : Sp := fun vs H Q _ => ∃ (a : Addr) (ns : List Int) (k : Int), vs = [.ref a, .int k] ∧ SqL K H a (ns.map V.int) ∧
  ns.length ≤ 63 ∧ 0 ≤ k ∧ ∀ n : Int, Q (.int n) H
def spBox : Sp := fun vs H Q _ => ∃ n : Int, vs = [.int n] ∧ ∀ (b : Addr) (H' : Hp), H b = none → BoxAt H' b → (∀ c, c ≠ b → H' c = H c) → Q (.ref b) H'
theorem kp_of {b : Addr} {H H' : Hp} (h : ∀ c, c ≠ b → H' c = H c) : Kp b H H' := fun c o n z => by
  rw [h c n]
  exact z
theorem atI_ints {ns : List Int} {k : Int} (h0 : 0 ≤ k) (h1 : k < ns.length) : ∃ n, atI (ns.map V.int) k = some (.int n) := by
  obtain ⟨j, rfl⟩ : ∃ j : Nat, k = j := ⟨k.toNat, by omega⟩
  have hj : j < ns.length := by omega
  refine ⟨ns[j], atI_nat ?_⟩
  rw [List.getElem?_map, List.getElem?_eq_getElem hj]
  rfl
end Gd
namespace Gd
open PySem PySem.Spec PyProof.Rows L2
/-! ### data by its shape -/
/-- all but what N names is kept -/
def Kq (N : Addr → Prop) (H H' : Hp) : Prop := ∀ c o, ¬ N c → H c = some o → H' c = some o
mutual
/-- the value shows the data d, laid in objects that N does not name -/
inductive Da (H : Hp) (N : Addr → Prop) : V → PyData → Prop
  | non : Da H N .non .none
  | bl (b : Bool) : Da H N (.bl b) (.bool b)
  | int (i : Int) : Da H N (.int i) (.int i)
  | str (x : Str) : Da H N (.str x) (.str x)
  | lst {a : Addr} {xs : List V} {ds : List PyData} : ¬ N a → H a = some (.lst xs) → Das H N xs ds → Da H N (.ref a) (.list ds)
  | tup {a : Addr} {xs : List V} {ds : List PyData} : ¬ N a → H a = some (.tup xs) → Das H N xs ds → Da H N (.ref a) (.tuple ds)
inductive Das (H : Hp) (N : Addr → Prop) : List V → List PyData → Prop
  | nil : Das H N [] []
  | cons {v : V} {vs : List V} {d : PyData} {ds : List PyData} : Da H N v d → Das H N vs ds → Das H N (v :: vs) (d :: ds)
end
mutual
theorem Da.kq {H H' : Hp} {N : Addr → Prop} (k : Kq N H H') : ∀ {v : V} {d : PyData}, Da H N v d → Da H' N v d
  | _, _, .non => .non
  | _, _, .bl b => .bl b
  | _, _, .int i => .int i
  | _, _, .str x => .str x
  | _, _, .lst n h s => .lst n (k _ _ n h) (Das.kq k s)
  | _, _, .tup n h s => .tup n (k _ _ n h) (Das.kq k s)
theorem Das.kq {H H' : Hp} {N : Addr → Prop} (k : Kq N H H') : ∀ {vs : List V} {ds : List PyData}, Das H N vs ds → Das H' N vs ds
  | _, _, .nil => .nil
  | _, _, .cons h s => .cons (Da.kq k h) (Das.kq k s)
end
mutual
theorem Da.wk {H : Hp} {N M : Addr → Prop} (k : ∀ a, M a → N a) : ∀ {v : V} {d : PyData}, Da H N v d → Da H M v d
  | _, _, .non => .non
  | _, _, .bl b => .bl b
  | _, _, .int i => .int i
  | _, _, .str x => .str x
  | _, _, .lst n h s => .lst (fun z => n (k _ z)) h (Das.wk k s)
  | _, _, .tup n h s => .tup (fun z => n (k _ z)) h (Das.wk k s)
theorem Das.wk {H : Hp} {N M : Addr → Prop} (k : ∀ a, M a → N a) : ∀ {vs : List V} {ds : List PyData}, Das H N vs ds → Das H M vs ds
  | _, _, .nil => .nil
  | _, _, .cons h s => .cons (Da.wk k h) (Das.wk k s)
end
mutual
theorem Da.dp {K : PySem.W.Frag} {H : Hp} {N : Addr → Prop} : ∀ {v : V} {d : PyData}, Da H N v d → Dp K H v d
  | _, _, .non => .non
  | _, _, .bl b => .bl b
  | _, _, .int i => .int i
  | _, _, .str x => .str x
  | _, _, .lst _ h s => .lst (SqL.of h) (Das.dp s)
  | _, _, .tup _ h s => .tup (SqT.of h) (Das.dp s)
theorem Das.dp {K : PySem.W.Frag} {H : Hp} {N : Addr → Prop} : ∀ {vs : List V} {ds : List PyData}, Das H N vs ds → DpAll K H vs ds
  | _, _, .nil => .nil
  | _, _, .cons h s => .cons (Da.dp h) (Das.dp s)
end
theorem Das.len {H : Hp} {N : Addr → Prop} : ∀ {vs : List V} {ds : List PyData}, Das H N vs ds → vs.length = ds.length
  | _, _, .nil => rfl
  | _, _, .cons _ s => by rw [List.length_cons, List.length_cons, s.len]
theorem Das.get {H : Hp} {N : Addr → Prop} : ∀ {vs : List V} {ds : List PyData} {i : Nat} {v : V}, Das H N vs ds → vs[i]? = some v → ∃ d, ds[i]? = some d ∧ Da H N v d
  | _, _, 0, _, .cons h _, e => ⟨_, rfl, by
      have e2 := Option.some.inj e
      subst e2
      exact h⟩
  | _, _, i + 1, v, .cons _ s, e => s.get (i := i) (v := v) e
  | _, _, i, _, .nil, e => by simp at e
theorem Das.snoc {H : Hp} {N : Addr → Prop} {v : V} {d : PyData} : ∀ {vs : List V} {ds : List PyData}, Das H N vs ds → Da H N v d → Das H N (vs ++ [v]) (ds ++ [d])
  | _, _, .nil, h => .cons h .nil
  | _, _, .cons g s, h => .cons g (s.snoc h)
theorem Das.set {H : Hp} {N : Addr → Prop} {v : V} {d : PyData} : ∀ {vs : List V} {ds : List PyData} {i : Nat}, Das H N vs ds → Da H N v d → Das H N (vs.set i v) (ds.set i d)
  | _, _, _, .nil, _ => .nil
  | _, _, 0, .cons _ s, h => .cons h s
  | _, _, _ + 1, .cons g s, h => .cons g (s.set h)

theorem same_sqT {K : PySem.W.Frag} {H H' : Hp} {a : Addr} {xs : List V} (s : Same H H') (h : SqT K H a xs) : SqT K H' a xs := by
  rcases h with h | h
  · refine .inl ?_
    rcases h with h | ⟨o, h⟩
    · exact .inl (s _ _ h)
    · exact .inr ⟨o, s _ _ h⟩
  · exact .inr h
mutual
theorem dpSame {K : PySem.W.Frag} {H H' : Hp} (s : Same H H') : ∀ {v : V} {d : PyData}, Dp K H v d → Dp K H' v d
  | _, _, .non => .non
  | _, _, .bl b => .bl b
  | _, _, .int i => .int i
  | _, _, .str x => .str x
  | _, _, .lst h r => .lst (s.seq h) (dpSames s r)
  | _, _, .tup h r => .tup (same_sqT s h) (dpSames s r)
theorem dpSames {K : PySem.W.Frag} {H H' : Hp} (s : Same H H') : ∀ {vs : List V} {ds : List PyData}, DpAll K H vs ds → DpAll K H' vs ds
  | _, _, .nil => .nil
  | _, _, .cons h r => .cons (dpSame s h) (dpSames s r)
end
theorem dpLen {K : PySem.W.Frag} {H : Hp} : ∀ {vs : List V} {ds : List PyData}, DpAll K H vs ds → vs.length = ds.length
  | _, _, .nil => rfl
  | _, _, .cons _ s => by rw [List.length_cons, List.length_cons, dpLen s]
theorem dpGet {K : PySem.W.Frag} {H : Hp} : ∀ {vs : List V} {ds : List PyData} {i : Nat} {v : V}, DpAll K H vs ds → vs[i]? = some v → ∃ d, ds[i]? = some d ∧ Dp K H v d
  | _, _, 0, _, .cons h _, e => ⟨_, rfl, by
      have e2 := Option.some.inj e
      subst e2
      exact h⟩
  | _, _, i + 1, v, .cons _ s, e => dpGet (i := i) (v := v) s e
  | _, _, i, _, .nil, e => by simp at e
theorem d1Same {K : PySem.W.Frag} {H H' : Hp} (s : Same H H') {v : V} {d : PyData} (h : D1 K H v d) : D1 K H' v d := by
  cases h with
  | dp h => exact .dp (dpSame s h)
  | emp h => exact .emp (s _ _ h)
/-! ### the class of data -/
def tyN : PyData → String
  | .none => "NoneType"
  | .bool _ => "bool"
  | .int _ => "int"
  | .str _ => "str"
  | .list _ => "list"
  | .tuple _ => "tuple"
  | .dict _ => "dict"
def isIntD : PyData → Bool
  | .bool _ => true
  | .int _ => true
  | _ => false
def isBoolD : PyData → Bool
  | .bool _ => true
  | _ => false
def isStrD : PyData → Bool
  | .str _ => true
  | _ => false
def isTupD : PyData → Bool
  | .tuple _ => true
  | _ => false
def isSeqD : PyData → Bool
  | .list _ => true
  | .tuple _ => true
  | _ => false
theorem tyL {K : PySem.W.Frag} {H : Hp} {a : Addr} {xs : List V} (h : SqL K H a xs) : TyX K H (.ref a) (.type "list") := by
  rcases h with h | ⟨o, _, _, h, hc, _⟩
  · rcases h with h | ⟨o, h⟩
    · exact .base (.lst h)
    · exact .base (.frz h)
  · exact .kList h hc
theorem tyT {K : PySem.W.Frag} {H : Hp} {a : Addr} {xs : List V} (h : SqT K H a xs) : TyX K H (.ref a) (.type "tuple") := by
  rcases h with h | ⟨o, _, _, h, hc, _⟩
  · rcases h with h | ⟨o, h⟩
    · exact .base (.tup h)
    · exact .fTuple h
  · exact .kTuple h hc
theorem tyD {K : PySem.W.Frag} {H : Hp} {v : V} {d : PyData} (h : D1 K H v d) : TyX K H v (.type (tyN d)) := by
  cases h with
  | dp h =>
    cases h with
    | non => exact .base .non
    | bl b => exact .base (.bl b)
    | int i => exact .base (.int i)
    | str x => exact .base (.str x)
    | lst h _ => exact tyL h
    | tup h _ => exact tyT h
  | emp h => exact .base (.dK h)
theorem kInt {K : PySem.W.Frag} (d : PyData) : PySem.W.kitOne K (.type (tyN d)) (.type "int") = some (isIntD d) := by
  cases d
  all_goals exact kit_ty (by simp only [tyN, isIntD]; decide +kernel)
theorem kBool {K : PySem.W.Frag} (d : PyData) : PySem.W.kitOne K (.type (tyN d)) (.type "bool") = some (isBoolD d) := by
  cases d
  all_goals exact kit_ty (by simp only [tyN, isBoolD]; decide +kernel)
theorem kStr {K : PySem.W.Frag} (d : PyData) : PySem.W.kitOne K (.type (tyN d)) (.type "str") = some (isStrD d) := by
  cases d
  all_goals exact kit_ty (by simp only [tyN, isStrD]; decide +kernel)
theorem kTup {K : PySem.W.Frag} (d : PyData) : PySem.W.kitOne K (.type (tyN d)) (.type "tuple") = some (isTupD d) := by
  cases d
  all_goals exact kit_ty (by simp only [tyN, isTupD]; decide +kernel)
theorem kLst {K : PySem.W.Frag} (d : PyData) : PySem.W.kitOne K (.type (tyN d)) (.type "list") = some (isSeqD d && !isTupD d) := by
  cases d
  all_goals exact kit_ty (by simp only [tyN, isSeqD, isTupD]; decide +kernel)
theorem kSeq {K : PySem.W.Frag} (d : PyData) : PySem.W.kitAny K (.type (tyN d)) [.type "list", .type "tuple"] = some (isSeqD d) := by
  refine kitAny_cons (kLst d) (fun z => kitAny_cons (kTup d) (fun y => ?_) fun y => ?_) fun z => ?_
  · have e : isSeqD d = false := by
      cases d
      all_goals simp_all [isSeqD, isTupD]
    rw [e]
    exact kitAny_nil
  · cases d
    all_goals simp_all [isSeqD, isTupD]
  · cases d
    all_goals simp_all [isSeqD, isTupD]
theorem clsSeq : Paired ClsV [.ty "list", .ty "tuple"] [.type "list", .type "tuple"] := .cons (.ty _) (.cons (.ty _) .nil)
/-! ### how long it is when shown -/
def Big (n : Int) : Prop := -(10 ^ 40) ≤ n ∧ n ≤ 10 ^ 40
theorem big_log {n : Int} (h : Big n) : n.natAbs.log2 < 1920 := by
  have h0 : n.natAbs < 2 ^ 1920 := by
    have h1 : n.natAbs ≤ 10 ^ 40 := by
      obtain ⟨h1, h2⟩ := h
      omega
    exact Nat.lt_of_le_of_lt h1 (by decide +kernel)
  by_cases z : n.natAbs = 0
  · rw [z]
    decide +kernel
  · exact (Nat.log2_lt z).mpr h0
/-- it may be shown, in so many signs, so deep -/
structure Okd (d : PyData) (m e : Nat) : Prop where
  sh : d.showable = true
  ln : d.shown.length ≤ m
  dp : d.depth ≤ e
theorem Okd.up {d : PyData} {m e m' e' : Nat} (h : Okd d m e) (h1 : m ≤ m') (h2 : e ≤ e') : Okd d m' e' := ⟨h.sh, Nat.le_trans h.ln h1, Nat.le_trans h.dp h2⟩
theorem okNone : Okd .none 5 0 := ⟨by simp only [PyData.showable], by simp only [PyData.shown]; decide +kernel, by simp only [PyData.depth]; decide⟩
theorem okBool (b : Bool) : Okd (.bool b) 5 0 := by
  refine ⟨by simp only [PyData.showable], ?_, by simp only [PyData.depth]; decide⟩
  cases b
  · simp only [PyData.shown]
    decide +kernel
  · simp only [PyData.shown]
    decide +kernel
theorem okInt {n : Int} (h : Big n) : Okd (.int n) 50 0 := by
  refine ⟨?_, ?_, by simp only [PyData.depth]; decide⟩
  · simp only [PyData.showable, decide_eq_true_eq]
    exact big_log h
  · simp only [PyData.shown]
    rw [PySem.ofString_length]
    have h1 : n.natAbs < 10 ^ 41 := by
      have h1 : n.natAbs ≤ 10 ^ 40 := by
        obtain ⟨h1, h2⟩ := h
        omega
      exact Nat.lt_of_le_of_lt h1 (by decide +kernel)
    exact Nat.le_trans (int_text_length_le10 (k := 41) (by decide) h1) (by decide)
theorem okStr {x : Str} {m : Nat} (h : (reprText x).length ≤ m) : Okd (.str x) m 0 :=
  ⟨by simp only [PyData.showable], by simp only [PyData.shown]; exact h, by simp only [PyData.depth]; decide⟩
theorem okEmp : Okd (.dict []) 5 1 := by
  refine ⟨by simp only [PyData.showable, PyData.showableKv], ?_, by simp only [PyData.depth, PyData.depthKv]; decide⟩
  simp only [PyData.shown, PyData.shownKv]
  decide +kernel
theorem sum_le {m : Nat} : ∀ ts : List Str, (∀ t ∈ ts, t.length ≤ m) → (ts.map (·.length)).sum ≤ m * ts.length
  | [], _ => by simp
  | t :: r, h => by
    have h1 := h t List.mem_cons_self
    have h2 := sum_le r fun x hx => h x (List.mem_cons_of_mem _ hx)
    rw [List.map_cons, List.sum_cons, List.length_cons, Nat.mul_succ]
    show t.length + _ ≤ _
    omega
theorem oks {m e : Nat} : ∀ {ds : List PyData}, (∀ d ∈ ds, Okd d m e) → PyData.showableAll ds = true ∧ (∀ t ∈ PyData.shownAll ds, t.length ≤ m) ∧ PyData.depthAll ds ≤ e ∧ (PyData.shownAll ds).length = ds.length
  | [], _ => ⟨by simp only [PyData.showableAll], by simp [PyData.shownAll], by simp only [PyData.depthAll]; exact Nat.zero_le _, by simp only [PyData.shownAll]; rfl⟩
  | d :: r, h => by
    have a := h d List.mem_cons_self
    obtain ⟨b1, b2, b3, b4⟩ := oks fun x hx => h x (List.mem_cons_of_mem _ hx)
    refine ⟨by simp only [PyData.showableAll, a.sh, b1, Bool.and_self], ?_, ?_, by simp only [PyData.shownAll, List.length_cons, b4]⟩
    · intro t ht
      simp only [PyData.shownAll, List.mem_cons] at ht
      rcases ht with rfl | ht
      · exact a.ln
      · exact b2 t ht
    · have := a.dp
      simp only [PyData.depthAll]
      omega
theorem okList {ds : List PyData} {m e n : Nat} (h : ∀ d ∈ ds, Okd d m e) (l : ds.length ≤ n) : Okd (.list ds) (m * n + 2 * n + 3) (e + 1) := by
  obtain ⟨b1, b2, b3, b4⟩ := oks h
  refine ⟨by simp only [PyData.showable, b1], ?_, by simp only [PyData.depth]; omega⟩
  simp only [PyData.shown]
  have h1 := listText_len_le (PyData.shownAll ds)
  have h2 := sum_le _ b2
  rw [b4] at h1 h2
  have h3 : m * ds.length ≤ m * n := Nat.mul_le_mul_left m l
  omega
theorem okTuple {ds : List PyData} {m e n : Nat} (h : ∀ d ∈ ds, Okd d m e) (l : ds.length ≤ n) : Okd (.tuple ds) (m * n + 2 * n + 3) (e + 1) := by
  obtain ⟨b1, b2, b3, b4⟩ := oks h
  refine ⟨by simp only [PyData.showable, b1], ?_, by simp only [PyData.depth]; omega⟩
  simp only [PyData.shown]
  have h1 := tupleText_len_le (PyData.shownAll ds)
  have h2 := sum_le _ b2
  rw [b4] at h1 h2
  have h3 : m * ds.length ≤ m * n := Nat.mul_le_mul_left m l
  omega
theorem line_le {n : Nat} (h : n ≤ 1000000) : n ≤ sizeLine := Nat.le_trans h (by decide)
theorem bLn (B : Bool) : (PyData.bool B).shown.length ≤ sizeLine := Nat.le_trans (okBool B).ln (by decide)
theorem bDp (B : Bool) : (PyData.bool B).depth ≤ 60 := Nat.le_trans (okBool B).dp (by decide)
theorem ifSame {x : V} {A B : Prop} (h : B) : if (!decide (x = x)) = true then A else B := by
  rw [decide_eq_true rfl]
  exact h
/-! ### heaps and picks -/
theorem same_new {H : Hp} {p : Addr} {o : HO} (h : H p = none) : Same H (upd H p o) := fun b x e => by
  rw [upd_ne (ne_of_none e h)]
  exact e
theorem kep {H : Hp} {p q : Addr} {o u : HO} (h : H p = some o) (n : H q = none) : (upd H q u) p = some o := by
  rw [upd_ne (ne_of_none h n)]
  exact h
theorem upd_none {H : Hp} {p q : Addr} {o : HO} (h : upd H p o q = none) : H q = none := by
  unfold upd at h
  split at h
  · cases h
  · exact h
theorem pickL (xs : List V) {k : Int} (h0 : 0 ≤ k) (h1 : k < xs.length) : ∃ v, v ∈ xs ∧ atI xs k = some v := by
  obtain ⟨j, rfl⟩ : ∃ j : Nat, k = j := ⟨k.toNat, by omega⟩
  have hj : j < xs.length := by omega
  exact ⟨xs[j], List.getElem_mem hj, atI_nat (List.getElem?_eq_getElem hj)⟩
theorem pickK (xs : List V) {k : Int} (h0 : 0 ≤ k) (h1 : k < xs.length) : ∃ v, xs[k.toNat]? = some v ∧ atI xs k = some v := by
  obtain ⟨j, rfl⟩ : ∃ j : Nat, k = j := ⟨k.toNat, by omega⟩
  have hj : j < xs.length := by omega
  exact ⟨xs[j], List.getElem?_eq_getElem hj, atI_nat (List.getElem?_eq_getElem hj)⟩
theorem boxAway {H : Hp} {b D : Addr} {o : HO} (h : BoxAt H b) (n : D ≠ b) : BoxAt (upd H D o) b := by
  obtain ⟨x, y, z, h1, h2, h3, h4⟩ := h
  refine ⟨x, y, z, h1, h2, h3, ?_⟩
  rw [upd_ne n.symm]
  exact h4
theorem boxSame {b : Addr} {H H' : Hp} (h : BoxAt H b) (s : Same H H') : BoxAt H' b := by
  obtain ⟨x, y, z, h1, h2, h3, h4⟩ := h
  exact ⟨x, y, z, h1, h2, h3, s _ _ h4⟩
theorem same_kp {b : Addr} {H H' : Hp} (s : Same H H') : Kp b H H' := fun c o _ z => s c o z
theorem same_keep {H H' H'' : Hp} {b : Addr} (s : Same H H') (n : H' b = none) (k : ∀ c o, c ≠ b → H' c = some o → H'' c = some o) : Same H H'' := fun c o z =>
  k c o (ne_of_none (s c o z) n) (s c o z)
/-- new in H, where the box is b -/
def Nw (H : Hp) (b : Addr) : Addr → Prop := fun c => c = b ∨ ∃ o, H c = some o
theorem nw_of {H H' : Hp} {b p : Addr} (k : Kp b H H') (n : H' p = none) (hb : p ≠ b) : ¬ Nw H b p := by
  rintro (h | ⟨o, h⟩)
  · exact hb h
  · rw [k p o hb h] at n
    cases n
theorem Kp.kq {b : Addr} {H H' : Hp} {N : Addr → Prop} (k : Kp b H H') (n : N b) : Kq N H H' := fun c o hc z => k c o (fun e => hc (e ▸ n)) z
theorem defAt {K : PySem.W.Frag} {mg : Str → Option Value} {x : Str} {st : Stmt} {ps : List Str} {f : Addr} {oc : Value} {od an : Option Addr} {osl : Array (Option Value)} {kV doc pm cdv ct : Value}
    (m : mg x = some (.ref f))
    (l : K.lookup f = some ⟨oc, od, .func (PySem.W.fnOf x x (defArgs st) (defBody st) (defScope st) .none kV doc pm an cdv ct), osl⟩)
    (c : PySem.W.codeIn K cdv x = true) (k : PySem.W.keepIn K (.ref f) = true)
    (b : ∀ (kV doc pm : Value) (an : Option Addr) (cdv ct : Value) (us : List Value), us.length = ps.length →
      bindArgs (PySem.W.fnOf x x (defArgs st) (defBody st) (defScope st) .none kV doc pm an cdv ct) ⟨us, []⟩ = pure (ps.zip us)) :
    DefAt K mg x st ps := by
  have F := fun_mk (st := st) l c k
  exact ⟨f, _, F, m, F.binds b⟩
end Gd
/-! An own error whose __init__ says super().__init__(a text), then keeps the one thing it is made of. -/
namespace Ge
open PySem PySem.W PySem.Calls PyProof.Rows PySem.HandSPX
def iA (p1 p2 : Pos) : Arguments := { posonlyargs := [], args := [{ arg := "self", annotation := none, pos := p1 }, { arg := "found", annotation := none, pos := p2 }], vararg := none, kwonlyargs := [], kw_defaults := [], kwarg := none, defaults := [] }
def iB (msg : Str) (kk : Nat) (p1 p2 p3 p4 p5 p6 q1 q2 q3 q4 : Pos) : List Stmt :=
  [.Expr (.Call (.Attribute (.Call (.Name "super" p1) [] [] p2) "__init__" p3) [.Constant (.str msg) kk p4] [] p5) p6,
   .Assign [.Attribute (.Name "self" q1) "found" q2] (.Name "found" q3) q4]
def iS : Scope := { kind := .function, names := [(PySem.Str.ofString "self", .local), (PySem.Str.ofString "found", .local), (PySem.Str.ofString "__class__", .free), (PySem.Str.ofString "super", .globalImplicit)], isGenerator := false, isCoroutine := false, more := [] }
/-- what the written part says of the class at C and of its __init__ at fI -/
structure ErrTxt (P : Program) (K : Frag) (C fI : Addr) (qn msg : Str) : Prop where
  cls : ∃ nm q N bs bm sn sub ab col dd k0 k1 k2 k3 k5, K.lookup C = some (excClassObj nm q C N bs bm true sn sub ab col dd k0 k1 k2 k3 k5 "ValueError.__new__") ∧ refsVE bm = true
  sa : findIn K (.ref C) "__setattr__" = some (some (.builtin "object.__setattr__"))
  ga : findIn K (.ref C) "__getattribute__" = some (some (.builtin "BaseException.__getattribute__"))
  gg : findIn K (.ref C) "__getattr__" = some none
  noN : findIn K (.ref C) "found" = some none
  iC : findIn K (.ref C) "__init__" = some (some (.ref fI))
  tC : typeIn K (.ref fI) = some (.type "function")
  kC : keepIn K (.ref C) = true
  exC : subIn K (.ref C) (.type "BaseException") = some true
  veC : subIn K (.ref C) (.type "ValueError") = some true
  tyC : typeIn K (.ref C) = some (.type "type")
  hdC : hasDictIn K C = true
  sub : mroIn K C (.ref C) = some true
  sup : ks_superIn K C C "__init__" = some (some (.builtin "ValueError.__init__"))
  op : nsIn K cStatics "thirdparty.any" = some none
  zs : nsIn K mainGlobals "super" = some none
  htop : (P.main.scope.names.lookup ("super" : Str)).isSome = false
  fn : ∃ (oc : Value) (od : Option Addr) (doc pm : Value) (an : Option Addr) (cda cc : Addr) (ct : Value) (osl : Array (Option Value)) (kk : Nat) (p1 p2 p3 p4 p5 p6 q1 q2 q3 q4 r1 r2 : Pos) (ccl cl : Value) (cdd cld : Option Addr) (vs : Array Value) (ccs csl : Array (Option Value)) (file : Str) (tf : Tok),
    K.lookup fI = some ⟨oc, od, .func (ksFn "__init__" qn (iA r1 r2) (iB msg kk p1 p2 p3 p4 p5 p6 q1 q2 q3 q4) iS .none .none doc pm an (.ref cda) ct cc), osl⟩ ∧ codeIn K (.ref cda) qn = true ∧
    K.lookup cda = some ⟨ccl, cdd, .fields vs, ccs⟩ ∧ vs[2]? = some (.str file tf) ∧ ((P.main.file : Str) == file) = true ∧
    K.lookup cc = some ⟨cl, cld, .cell (some (.ref C)), csl⟩ ∧ (p3.endLine == p5.line) = true
/-- what __init__ leaves of a fresh exception at x -/
structure InitEnd (h h' : Heap) (x C dx t1 : Addr) (v : Value) : Prop where
  keep : ∀ b o, b ≠ x → h.get? b = some o → h'.get? b = some o
  obj : h'.get? x = some { cls := .ref C, dict := some dx, data := .fields #[.ref t1, .none, .none, .none, .bool false, .none] }
  dbig : h.objs.size ≤ dx
  dne : dx ≠ x
  ns : h'.Ns1 dx (fun y => if y = "found" then some v else none)
theorem iS_nocell : ∀ y ∈ iS.names, y.2 ≠ .cell := by decide +kernel
theorem iS_loc (x v : Value) : ∀ y ∈ ([(PySem.Str.ofString "self", x), (PySem.Str.ofString "found", v)] : List (Str × Value)), iS.names.lookup y.1 = some .local := by
  intro y hy
  simp only [List.mem_cons, List.not_mem_nil, or_false] at hy
  rcases hy with rfl | rfl
  · exact (by decide +kernel : iS.names.lookup (PySem.Str.ofString "self") = some .local)
  · exact (by decide +kernel : iS.names.lookup (PySem.Str.ofString "found") = some .local)
/-- o.name(..) in a body that is known to run, the call's line told -/
theorem at_method {M : Model} {A : Around} {c : Code} {E : Value → Shared → Prop} {s : Shared} {env : Env} {o : Expr} {name : Str} {apos pos : Pos} {args : List Expr} {Q : Value → Shared → Prop}
    (hl : (apos.endLine == pos.line) = true) (hf : methodCallForm (args.length + ([] : List Keyword).length) (backTo pos (starEach args env)) (backToKw pos (keywordEach [] env)) = true)
    (h : _root_.PySem.wpAt M A c (attributeBase o name env (eval o env)) (fun ov s₁ => wpAny M A (getMethod ov name (do return (← importBound o env).getD true))
      (fun fx s₂ => wpAny M A (callWith pos fx.1 fx.2 (backTo pos (starEach args env)) (backToKw pos (keywordEach [] env))) Q E s₂) E s₁) E s) :
    _root_.PySem.wpAt M A c (eval (.Call (.Attribute o name apos) args [] pos) env) Q E s := by
  rw [arm_eval_Call]
  apply _root_.PySem.wpAt_bind
  apply _root_.PySem.wpAt_mono h
  · intro ov s₁ h₁
    apply _root_.PySem.wpAt_of_wpAny
    apply wpAny_bind
    apply wpAny_standAt
    have hp : methodCallPos true o env apos pos = pure pos := by
      unfold methodCallPos
      simp [hl]
    unfold methodCall
    rw [hf]
    apply wpAny_bind
    apply wpAny_holding
    apply wpAny_mono h₁
    · intro fx s₂ h₂
      exact wpAny_bind (wpAny_of_eq hp h₂)
    · intro _ _ z
      exact z
  · intro _ _ z
    exact z
section
variable {prog : Program} {w : World} {A : Around} {E : Value → Shared → Prop} {R : Result → Shared → Prop} {s : Shared} {K : Frag} {mg mb : Str → Option Value} {C fI : Addr} {qn msg : Str}
theorem sup_call {h : Heap} {g : Array GenState} {d : Drawn} {t : Nat} {os : OsState} {u e t0 : Addr} {one : Value} {Q : Value → Shared → Prop}
    {nm q : Str} {N : Addr} {bs bm sub : List Value} {sn : List Str} {ab : Bool} {col : Option Bool} {dd : Option Addr} {k0 k1 k2 k3 k5 : Option Value}
    (hC : h.get? C = some (excClassObj nm q C N bs bm true sn sub ab col dd k0 k1 k2 k3 k5 "ValueError.__new__")) (he : h.get? e = some (excO C t0)) (hu : h.get? u = some (kxs_mw "ValueError.__init__" e))
    (hq : ∀ h' t1, (∀ b o, b ≠ e → h.get? b = some o → h'.get? b = some o) → h'.get? e = some (excO C t1) → Q .none ⟨h', g, d, t, os⟩) :
    wpAny (model prog w) A (call (.ref u) [one]) Q E ⟨h, g, d, t, os⟩ := by
  refine wpAny_call (codeAny_of_tree (show wpAny _ (Around.in1 _) (callAny (.ref u) ⟨[one], []⟩) _ _ _ from ?_))
  have e1 : (Value.type "method-wrapper" == Value.type "method" || Value.type "method-wrapper" == Value.type "builtin_function_or_method" || Value.type "method-wrapper" == Value.type "method-wrapper") = true := by decide
  simp only [callAny]
  refine wpAny_bind (m := load u) (wpAny_load hu ?_)
  simp only [kxs_mw, e1, if_true]
  refine (KFB.if_so (by decide) (wpAny_bind (check_bound_init F.excBase_ValueError.toExcCallFacts hC he rfl ?_)))
  refine (wpAny_bind (wpAny_pure (wpAny_pure (And.intro (plainId_quiet F.excBase_ValueError.init.plain _) (codeAny_builtin F.excBase_ValueError.initEntry ?_)))))
  have lz : [one].length ≤ sizeLine := by
    rw [sizeLine_eq]
    exact (by decide : 1 ≤ 16777216)
  exact exc_init_tree (cls := .ref C) (t0 := t0) (dv := none) (c2 := .none) (c3 := .none) (b4 := .bool false) he lz (fun h₄ k₄ hx₄ _ => hq h₄ _ k₄ hx₄)
theorem err_init (T : ErrTxt prog K C fI qn msg) {x t0 : Addr} {v : Value} (X : K.In s.heap) (lim : s.heap.NoLimit) (gl : s.heap.Ns mainGlobals mg) (bl : s.heap.Ns builtinsNs mb)
    (bb : ∀ x : Str, x ≠ "__name__" → mb x = bootBuiltins x) (hx : s.heap.get? x = some (excO C t0)) (hnx : K.lookup x = none) (room : A.depth < recursionLimit)
    (hq : ∀ h' tk dx t1, InitEnd s.heap h' x C dx t1 v → R (.ok (.ret .none)) { s with heap := h', toks := tk }) :
    codeAny (model prog w) A (.call (.ref fI) ⟨[.ref x, v], []⟩) R s := by
  obtain ⟨oc, od, doc, pm, an, cda, cc, ct, osl, kk, p1, p2, p3, p4, p5, p6, q1, q2, q3, q4, r1, r2, ccl, cl, cdd, cld, vs, ccs, csl, file, tf, ho, hcd, hcode, hvs, hfile, hcell, hline⟩ := T.fn
  obtain ⟨nm, q, N, bs, bm, sn, sub, ab, col, dd, k0, k1, k2, k3, k5, hC, hbm⟩ := T.cls
  have hzs := mg_none_of X gl T.zs
  obtain ⟨hp, g, dr, tk, os⟩ := s
  refine ks_codeAny_call_defAt (binds := [("self", .ref x), ("found", v)]) room (X _ _ ho) rfl lim (codeRec_of X hcd) rfl (BindsTo.of_eq (by first | rfl | with_unfolding_all rfl)) iS_nocell (iS_loc _ _) (fun h₁ hns k₁ => ?_) rfl rfl rfl
  have X₁ : K.In h₁ := X.keeps k₁
  have hx₁ := k₁ _ _ hx
  refine ks_wpAt_execs_cons (ks_wpAt_Expr_any (at_method hline (by first | rfl | with_unfolding_all rfl) ?_))
  refine ks_wpAt_super_base rfl rfl (by decide) rfl (X₁ _ _ ho) rfl rfl rfl (X₁ _ _ hcode) rfl hvs hfile T.htop ?_
  refine ks_loadName_global rfl rfl (loadGlobal_builtin (gl.keeps k₁) hzs (bl.keeps k₁) ((bb _ (by decide +kernel)).trans (by decide +kernel : bootBuiltins "super" = some (.type "super"))) ⟨rfl, ?_⟩)
  refine wpAny_loadName_free rfl rfl rfl ⟨_, X₁ _ _ hcell, rfl⟩ ?_
  refine wpAny_loadName_local rfl rfl hns (v := .ref x) (by first | rfl | with_unfolding_all rfl) ?_
  refine ks_wpAny_isType_cls (X₁ _ _ hC) rfl ⟨rfl, ?_⟩
  refine ks_wpAny_call_super (X₁ _ _ hC) rfl hx₁ rfl (fun c e => nomatch e) (looks_mroIn X₁ T.sub) (fun h₂ e₂ k₂ => ?_)
  have X₂ : K.In h₂ := X₁.keeps k₂
  have hx₂ := k₂ _ _ hx₁
  have I₂ : InstAt h₂ x (excO C t0) C none := ⟨hx₂, rfl, rfl, trivial⟩
  have hcl : clsIn K C = some { name := nm, bases := bs, mro := .ref C :: bm, ns := N, qualname := q, hasDict := true, slotNames := sn, subclasses := sub, abstract := ab, collection := col, hasDel := false } := by
    unfold clsIn
    rw [hC]
    all_goals rfl
  have hm := T.sup
  unfold ks_superIn at hm
  rw [hcl] at hm
  have hI : Looks (model prog w) h₂ (isInstance (.ref x) (.type "ValueError")) true := I₂.type.andThen (looks_subIn X₂ T.veC)
  have hxC : x ≠ C := fun z => by
    rw [z, hC] at hnx
    cases hnx
  refine kxs_getMethod kxs_ValueError e₂ (looks_opaque X₂ T.op) (l₀ := .ref C :: bm) ?_ rfl X₂ hm hI hxC (by decide +kernel) ?_
  · exact fun A Q E s k q => wpAny_bind ((looks_clsIn X₂ hcl) A _ E s k (wpAny_pure q))
  have hu : (h₂.push (kxs_mw "ValueError.__init__" x)).get? h₂.objs.size = some (kxs_mw "ValueError.__init__" x) := Heap.get?_push_at rfl rfl
  have k₃ : ∀ b o, h₂.get? b = some o → (h₂.push (kxs_mw "ValueError.__init__" x)).get? b = some o := fun b o e => Heap.get?_push_of_some _ e
  have X₃ : K.In (h₂.push (kxs_mw "ValueError.__init__" x)) := X₂.keeps k₃
  have hx₃ := k₃ _ _ hx₂
  refine kxs_callWith (i := "ValueError.__init__") (x := x) (by rfl) (evalArgs_plain ?_)
  refine Calls.spliced_cons (Calls.Constant_str (k := kk) (pos := p4) ?_)
  refine Calls.spliced_nil ⟨hu, ?_⟩
  refine sup_call (X₃ _ _ hC) hx₃ hu (fun h₄ t1 k₄ hx₄ => ?_)
  -- self.found = found
  have X₄ : K.In h₄ := fun a o e => k₄ a o (fun z => by rw [z, hnx] at e; cases e) (X₃ a o e)
  have hLx : hp.objs.size ≠ x := Nat.ne_of_gt (Heap.lt_size hx)
  have hn₄ := hns
  obtain ⟨oL, es, ep, eL, rL⟩ := hn₄
  have hn₄ : h₄.Ns hp.objs.size _ := ⟨oL, es, ep, k₄ _ _ hLx (k₃ _ _ (k₂ _ _ eL)), rL⟩
  have big : hp.objs.size < h₄.objs.size := hn₄.lt
  show _root_.PySem.wpAt _ _ _ (execs _ _) _ _ _
  refine _root_.PySem.wpAt_of_wpAny (wpAny_execs_cons (plainObj_wpAny_Assign_Attribute ?_))
  refine wpAny_Name (wpAny_loadName_local rfl rfl hn₄ (v := v) (by first | rfl | with_unfolding_all rfl) ?_) (by decide)
  refine wpAny_Name (wpAny_loadName_local rfl rfl hn₄ (v := .ref x) (by first | rfl | with_unfolding_all rfl) ?_) (by decide)
  refine set_plain X₄ (ox := excO C t1) (od := none) ⟨hx₄, rfl, rfl, trivial⟩ T.sa ?_
  refine HandSPX.exc_osa X₄ hx₄ hcl (show refsVE (.ref C :: bm) = true from hbm) rfl T.noN (fun h₅ tk₅ dx k₅ dn dne hx₅ hn₅ => ?_)
  show wpAny _ _ (execs _ _) _ _ _
  exact wpAny_execs_nil (hq h₅ tk₅ dx t1 ⟨fun b o hb e => k₅ b o hb (k₄ b o hb (k₃ b o (k₂ b o (k₁ b o e)))), hx₅, Nat.le_trans (Nat.le_of_lt big) dn, dne, hn₅⟩)
/-- an error that was made: its own dict d holds the thing -/
structure OwnMade (h h' : Heap) (e C d : Addr) (v : Value) : Prop where
  keep : ∀ b o, h.get? b = some o → h'.get? b = some o
  new : h.objs.size ≤ e
  obj : ∃ oe vs, h'.get? e = some oe ∧ oe.cls = .ref C ∧ oe.dict = some d ∧ oe.data = .fields vs ∧ vs[1]? = some .none
  dbig : h.objs.size ≤ d
  dne : d ≠ e
  ns : h'.Ns1 d (fun y => if y = "found" then some v else none)
theorem one_size (v : Value) : [v].length ≤ sizeLine := by
  rw [sizeLine_eq]
  exact (by decide : 1 ≤ 16777216)
theorem err_made (T : ErrTxt prog K C fI qn msg) {v : Value} (X : K.In s.heap) (lim : s.heap.NoLimit) (gl : s.heap.Ns mainGlobals mg) (bl : s.heap.Ns builtinsNs mb)
    (bb : ∀ x : Str, x ≠ "__name__" → mb x = bootBuiltins x) (room : A.depth + 1 < recursionLimit)
    (hq : ∀ h' tk e d, OwnMade s.heap h' e C d v → R (.ok (.ret (.ref e))) { s with heap := h', toks := tk }) :
    codeAny (model prog w) A (.call (.ref C) ⟨[v], []⟩) R s := by
  obtain ⟨nm, q, N, bs, bm, sn, sub, ab, col, dd, k0, k1, k2, k3, k5, hC, hbm⟩ := T.cls
  obtain ⟨hp, g, dr, tk, os⟩ := s
  have k : ∀ b o, hp.get? b = some o → ((hp.push (kdv_tup [v])).push (excO C hp.objs.size)).get? b = some o := fun b o e => Heap.get?_push_of_some _ (Heap.get?_push_of_some _ e)
  have hget : ((hp.push (kdv_tup [v])).push (excO C hp.objs.size)).get? (hp.objs.size + 1) = some (excO C hp.objs.size) := by heap_get
  have hnx : K.lookup (hp.objs.size + 1) = none := by
    cases e : K.lookup (hp.objs.size + 1) with
    | none => rfl
    | some o =>
      have z : hp.get? (hp.objs.size + 1) = some o := X _ _ e
      exact absurd (Nat.lt_of_succ_lt (Heap.lt_size z)) (Nat.lt_irrefl _)
  refine HandSPX.call_own F.excBase_ValueError (fun X => refsVE_contains X bm hbm) (X _ _ hC) (looks_findIn X T.iC) (fun self => bind_fn X self T.tC) (one_size v) ?_
  refine err_init (s := ⟨(hp.push (kdv_tup [v])).push (excO C hp.objs.size), g, dr, tk, os⟩) T (X.keeps k) (lim.keeps k) (gl.keeps k) (bl.keeps k) bb hget hnx ?_ fun h' tk' dx t1 ⟨k', hx, dn, dne, hns⟩ => ?_
  · show A.depth + 1 < recursionLimit
    exact room
  · have old : ∀ b o, hp.get? b = some o → h'.get? b = some o := fun b o e => k' b o (Nat.ne_of_lt (Nat.lt_succ_of_lt (Heap.lt_size e))) (k b o e)
    have z : hp.objs.size + 1 + 1 ≤ dx := by
      first
        | (simpa only [Heap.size_push] using dn)
        | exact dn
        | (have q := dn; rw [Heap.size_push, Heap.size_push] at q; exact q)
    exact ⟨rfl, hq h' tk' (hp.objs.size + 1) dx ⟨old, Nat.le_succ _, ⟨_, _, hx, rfl, rfl, rfl, rfl⟩, Nat.le_trans (Nat.le_trans (Nat.le_succ _) (Nat.le_succ _)) z, dne, hns⟩⟩
end
end Ge
namespace Ge
open PySem PySem.Spec PyProof.Rows L2
theorem relO_f {v : V} {v' : Value} (r : RelV v v') (f : Str) : RelO (List.lookup f [(("found" : Str), v)]) (if f = "found" then some v' else none) := by
  by_cases hw : f = "found"
  · subst hw
    rw [if_pos rfl]
    have q : List.lookup ("found" : Str) [(("found" : Str), v)] = some v := by simp [List.lookup]
    rw [q]
    exact r
  · rw [if_neg hw]
    have qw : (f == ("found" : Str)) = false := by simpa using hw
    have q2 : List.lookup f [(("found" : Str), v)] = none := by simp [List.lookup, qw]
    rw [q2]
    trivial
section
variable {X : Cx} {C fI : Addr} {qn msg cn : Str}
/-- E(e) -/
def tMkE (C : Addr) (ta : TA) : L2.St → Hp → XK → Prop := fun σ H Q => ta σ H fun vs H1 => ∃ v, vs = [v] ∧ ∀ d, H1 d = none → Q (.ref C) (some d) (upd H1 d (.xd [(("found" : Str), v)]))
theorem pmk_err {a : Expr} {ta : TA} {p pos : Pos} {k : Nat} (T : ErrTxt X.prog X.K C fI qn msg) (gC : X.mg cn = some (.ref C)) (hr : Room k X.A) (ha : PA X [a] ta) (hg : Gl X cn)
    (hdb : (cn == ("__debug__" : Str)) = false := by decide)
    (he : starEach (a :: []) X.env = (false, eval a X.env) :: starEach [] X.env := by rfl) (hpl : (backTo pos (starEach [] X.env)).any (·.1) = false := by rfl) :
    PMk X (.Call (.Name cn p) [a] [] pos) (tMkE C ta) := by
  intro pins s σ H Q I h
  apply wpAny_Call_Name_kw
  apply ld_glob I hg gC (hd := hdb)
  refine PySem.W.callWith_K (h₀ := X.base) I.ok.mod.kin T.kC (thn (ha.run pos pins s σ H _ I h) ?_) he hpl
  rintro us s1 ⟨vs, H1, I1, r1, v, ev, q1⟩
  subst ev
  refine ⟨I1.kIn, ?_⟩
  cases r1 with
  | cons rv rn =>
    rename_i v' us'
    cases rn
    show wpAny _ _ (call (.ref C) [v']) _ _ _
    have hlim := I1.nolimit
    have hgl := I1.mod.glob.keeps I1.bk
    obtain ⟨mb, hbl0, hbb⟩ := I1.mod.blt
    have hbl := hbl0.keeps I1.bk
    obtain ⟨hp, g, dr, tk, os⟩ := s1
    refine wpAny_call (err_made T I1.kIn hlim hgl hbl hbb (by have := hr.dp; omega) fun h' tk' e d M => ?_)
    show MkP X pins σ Q (.ref e) ⟨h', g, dr, tk', os⟩
    obtain ⟨oe, fv, hoe, hc, hd, hdat, h1⟩ := M.obj
    have hns := M.ns
    obtain ⟨G', g1, g2⟩ := restrict h' fun b => decide (b ≠ e)
    have gk : ∀ b, b ≠ e → G'.get? b = h'.get? b := fun b hb => g1 b (decide_eq_true hb)
    have ge : G'.get? e = none := g2 e (by simp)
    have old : ∀ b o, hp.get? b = some o → G'.get? b = some o := fun b o q => (gk b (Nat.ne_of_lt (Nat.lt_of_lt_of_le (Heap.lt_size q) M.new))).trans (M.keep b o q)
    have ob : ObjOk X.prog X.w (upd H1 d (.xd [(("found" : Str), v)])) G' d (.xd [(("found" : Str), v)]) :=
      ⟨_, hns.at (fun o q => (gk d M.dne).trans q), fun f => relO_f rv f⟩
    have J : Inv X pins σ (upd H1 d (.xd [(("found" : Str), v)])) ⟨G', g, dr, tk', os⟩ := I1.laid (t' := tk') old M.dbig ob
    refine ⟨e, oe, fv, ⟨G', g, dr, tk', os⟩, _, .ref C, some d, rfl, J, fun b o q => ?_, ge, hoe, ⟨hc, hd⟩, hdat, h1, ?_, rfl, I1.bare, raises_own T.exC T.tyC, q1 d (I1.hok.fresh M.dbig)⟩
    · by_cases hb : b = e
      · have q' : G'.get? b = some o := q
        rw [hb, ge] at q'
        cases q'
      · exact (gk b hb).symm.trans q
    · rw [upd_ne (Ne.symm M.dne)]
      exact I1.hok.fresh M.new
/-- raise E(e) -/
def tRaiseE (C : Addr) (W : WX) (ta : TA) : TS := fun _ σ H => tMkE C ta σ H fun cls d H' => W cls d σ H'
theorem ps_raiseE {a : Expr} {ta : TA} {W : WX} {p pos pos2 : Pos} {k : Nat} (hc : X.calm = true) (T : ErrTxt X.prog X.K C fI qn msg) (gC : X.mg cn = some (.ref C)) (hr : Room k X.A) (tk : Takes X W) (ha : PA X [a] ta) (hg : Gl X cn)
    (hdb : (cn == ("__debug__" : Str)) = false := by decide)
    (he : starEach (a :: []) X.env = (false, eval a X.env) :: starEach [] X.env := by rfl) (hpl : (backTo pos (starEach [] X.env)).any (·.1) = false := by rfl) :
    PS X (.Raise (some (.Call (.Name cn p) [a] [] pos)) none pos2) (tRaiseE C W ta) := ps_raise hc tk (pmk_err T gC hr ha hg hdb he hpl)
/-- e.found, e the exception that the suite holds (at a; its class cls, its dict d) -/
def tFound (C : Addr) (a : Addr) (cls : Value) (d : Option Addr) (te : TE) : TE := fun σ H Q => te σ H fun x H1 => x = .ref a ∧ cls = .ref C ∧ ∃ (dd : Addr) (v : V), d = some dd ∧ H1 dd = some (.xd [(("found" : Str), v)]) ∧ Q v H1
theorem pe_found {a : Addr} {oe : Obj} {cls : Value} {d : Option Addr} {pn : List (Addr × Obj)} {e : Expr} {te : TE} {pos : Pos} (T : ErrTxt X.prog X.K C fI qn msg) (hz : Zc cls d oe) (hf : ∃ vs, oe.data = .fields vs) (he : PE (X.suite a ((a, oe) :: pn)) e te)
    (hb : attributeBase e "found" X.env (eval e X.env) = eval e X.env := by rfl) :
    PE (X.suite a ((a, oe) :: pn)) (.Attribute e "found" pos) (tFound C a cls d te) := by
  constructor
  intro pins s σ H Q I h
  refine attr_of hb (thn (he.run pins s σ H _ I h) ?_)
  rintro u s1 ⟨x, H1, I1, rx, ex, ec, dd, v, ed, ea, q⟩
  subst ex
  obtain rfl : u = Value.ref a := rx
  subst ec
  subst ed
  have ha := (I1.pin (a, oe) (List.mem_append_left _ List.mem_cons_self)).1
  obtain ⟨vs, hd⟩ := hf
  have hx : ObjOk X.prog X.w H1 s1.heap dd (.xd [(("found" : Str), v)]) := I1.hok dd _ ea
  obtain ⟨mA, hns, hr⟩ := hx
  obtain ⟨od, ho, hl⟩ := lookIn_ns hns
  have l : List.lookup ("found" : Str) [(("found" : Str), v)] = some v := by simp [List.lookup]
  obtain ⟨u, hu, ru⟩ := RelO.some_of (v := v) (o := mA "found") (by rw [← l]; exact hr "found")
  have J : PySem.W.InstAt s1.heap a oe C (some od) := by
    refine ⟨ha, hz.1, ?_, by rw [hz.2]; exact ho⟩
    unfold PySem.W.notCls
    rw [hd]
    all_goals rfl
  exact HandSPX.exc_get I1.kIn J T.ga T.gg T.exC (PySem.W.findObj_own T.hdC T.noN rfl (by rw [hl, hu])) (handed_of ru) ⟨v, H1, I1.tok _, ru, q⟩
/-- what a class of errors must say so that isinstance asks it -/
structure IsTxt (K : PySem.W.Frag) (C : Addr) : Prop where
  ha : PySem.W.findIn K (.ref C) "__class__" = some (some (.builtin "object.__class__"))
  hn : PySem.W.specialIn K (.builtin "object.__class__") "__get__" = some (some (.builtin "getset_descriptor.__get__"))
  ht : PySem.W.takesIn K (.builtin "object.__class__") = some true
  hm : PySem.W.mroIn K C (.type "object") = some true
/-- isinstance(e, c), e the exception that the suite holds, with its own dict -/
def rIsF (K : PySem.W.Frag) (C a : Addr) (cls : Value) (d : Option Addr) : List V → Hp → VK → Prop := fun xs H Q => ∃ (c : V) (cv : Value) (b : Bool) (dd : Addr) (v : V), xs = [.ref a, c] ∧ cls = .ref C ∧ d = some dd ∧
  H dd = some (.xd [(("found" : Str), v)]) ∧ ClsV c cv ∧ PySem.W.kitOne K (.ref C) cv = some b ∧ Q (.bl b) H
theorem call_isF {a : Addr} {oe : Obj} {cls : Value} {d : Option Addr} {pn : List (Addr × Obj)} (T : ErrTxt X.prog X.K C fI qn msg) (S : IsTxt X.K C) (hz : Zc cls d oe) (hf : ∃ vs, oe.data = .fields vs) :
    CallR (X.suite a ((a, oe) :: pn)) (.builtin "isinstance") (rIsF X.K C a cls d) := by
  intro pins s σ H xs us Q I r h
  obtain ⟨c, cv, b, dd, v, rfl, rfl, rfl, ea, hcv, e, q⟩ := h
  obtain ⟨u1, u2, rfl, r1, r2⟩ := vals2 r
  cases (show u1 = Value.ref a from r1)
  have e2 := hcv.eq r2
  subst e2
  have ha := (I.pin (a, oe) (List.mem_append_left _ List.mem_cons_self)).1
  obtain ⟨vs, hd⟩ := hf
  have hx : ObjOk X.prog X.w H s.heap dd (.xd [(("found" : Str), v)]) := I.hok dd _ ea
  obtain ⟨mA, hns, _⟩ := hx
  obtain ⟨od, ho, _⟩ := lookIn_ns hns
  have J : PySem.W.InstAt s.heap a oe C (some od) := by
    refine ⟨ha, hz.1, ?_, by rw [hz.2]; exact ho⟩
    unfold PySem.W.notCls
    rw [hd]
    all_goals rfl
  have hcl : (PySem.W.clsIn X.K C).isSome = true := by
    obtain ⟨cd, hc, _⟩ := PySem.W.any_some T.hdC
    rw [hc]
    rfl
  exact PySem.W.kia_one (PySem.W.kitx_exc hcl T.ga T.gg T.exC S.ha S.hn S.ht S.hm) I.kIn J e (fun z => nomatch z) fun tk => ⟨.bl b, H, I.kept (t' := tk) fun _ _ z => z, rfl, q⟩
end
end Ge
/-! An own error whose __init__ says super().__init__(a text), then keeps the one thing it is made of. -/
namespace Gc
open PySem PySem.W PySem.Calls PyProof.Rows PySem.HandSPX
def iA (p1 p2 : Pos) : Arguments := { posonlyargs := [], args := [{ arg := "self", annotation := none, pos := p1 }, { arg := "count", annotation := none, pos := p2 }], vararg := none, kwonlyargs := [], kw_defaults := [], kwarg := none, defaults := [] }
def iB (msg : Str) (kk : Nat) (p1 p2 p3 p4 p5 p6 q1 q2 q3 q4 : Pos) : List Stmt :=
  [.Expr (.Call (.Attribute (.Call (.Name "super" p1) [] [] p2) "__init__" p3) [.Constant (.str msg) kk p4] [] p5) p6,
   .Assign [.Attribute (.Name "self" q1) "count" q2] (.Name "count" q3) q4]
def iS : Scope := { kind := .function, names := [(PySem.Str.ofString "self", .local), (PySem.Str.ofString "count", .local), (PySem.Str.ofString "__class__", .free), (PySem.Str.ofString "super", .globalImplicit)], isGenerator := false, isCoroutine := false, more := [] }
/-- what the written part says of the class at C and of its __init__ at fI -/
structure ErrTxt (P : Program) (K : Frag) (C fI : Addr) (qn msg : Str) : Prop where
  cls : ∃ nm q N bs bm sn sub ab col dd k0 k1 k2 k3 k5, K.lookup C = some (excClassObj nm q C N bs bm true sn sub ab col dd k0 k1 k2 k3 k5 "ValueError.__new__") ∧ refsVE bm = true
  sa : findIn K (.ref C) "__setattr__" = some (some (.builtin "object.__setattr__"))
  ga : findIn K (.ref C) "__getattribute__" = some (some (.builtin "BaseException.__getattribute__"))
  gg : findIn K (.ref C) "__getattr__" = some none
  noN : findIn K (.ref C) "count" = some none
  iC : findIn K (.ref C) "__init__" = some (some (.ref fI))
  tC : typeIn K (.ref fI) = some (.type "function")
  kC : keepIn K (.ref C) = true
  exC : subIn K (.ref C) (.type "BaseException") = some true
  veC : subIn K (.ref C) (.type "ValueError") = some true
  tyC : typeIn K (.ref C) = some (.type "type")
  hdC : hasDictIn K C = true
  sub : mroIn K C (.ref C) = some true
  sup : ks_superIn K C C "__init__" = some (some (.builtin "ValueError.__init__"))
  op : nsIn K cStatics "thirdparty.any" = some none
  zs : nsIn K mainGlobals "super" = some none
  htop : (P.main.scope.names.lookup ("super" : Str)).isSome = false
  fn : ∃ (oc : Value) (od : Option Addr) (doc pm : Value) (an : Option Addr) (cda cc : Addr) (ct : Value) (osl : Array (Option Value)) (kk : Nat) (p1 p2 p3 p4 p5 p6 q1 q2 q3 q4 r1 r2 : Pos) (ccl cl : Value) (cdd cld : Option Addr) (vs : Array Value) (ccs csl : Array (Option Value)) (file : Str) (tf : Tok),
    K.lookup fI = some ⟨oc, od, .func (ksFn "__init__" qn (iA r1 r2) (iB msg kk p1 p2 p3 p4 p5 p6 q1 q2 q3 q4) iS .none .none doc pm an (.ref cda) ct cc), osl⟩ ∧ codeIn K (.ref cda) qn = true ∧
    K.lookup cda = some ⟨ccl, cdd, .fields vs, ccs⟩ ∧ vs[2]? = some (.str file tf) ∧ ((P.main.file : Str) == file) = true ∧
    K.lookup cc = some ⟨cl, cld, .cell (some (.ref C)), csl⟩ ∧ (p3.endLine == p5.line) = true
/-- what __init__ leaves of a fresh exception at x -/
structure InitEnd (h h' : Heap) (x C dx t1 : Addr) (v : Value) : Prop where
  keep : ∀ b o, b ≠ x → h.get? b = some o → h'.get? b = some o
  obj : h'.get? x = some { cls := .ref C, dict := some dx, data := .fields #[.ref t1, .none, .none, .none, .bool false, .none] }
  dbig : h.objs.size ≤ dx
  dne : dx ≠ x
  ns : h'.Ns1 dx (fun y => if y = "count" then some v else none)
theorem iS_nocell : ∀ y ∈ iS.names, y.2 ≠ .cell := by decide +kernel
theorem iS_loc (x v : Value) : ∀ y ∈ ([(PySem.Str.ofString "self", x), (PySem.Str.ofString "count", v)] : List (Str × Value)), iS.names.lookup y.1 = some .local := by
  intro y hy
  simp only [List.mem_cons, List.not_mem_nil, or_false] at hy
  rcases hy with rfl | rfl
  · exact (by decide +kernel : iS.names.lookup (PySem.Str.ofString "self") = some .local)
  · exact (by decide +kernel : iS.names.lookup (PySem.Str.ofString "count") = some .local)
/-- o.name(..) in a body that is known to run, the call's line told -/
theorem at_method {M : Model} {A : Around} {c : Code} {E : Value → Shared → Prop} {s : Shared} {env : Env} {o : Expr} {name : Str} {apos pos : Pos} {args : List Expr} {Q : Value → Shared → Prop}
    (hl : (apos.endLine == pos.line) = true) (hf : methodCallForm (args.length + ([] : List Keyword).length) (backTo pos (starEach args env)) (backToKw pos (keywordEach [] env)) = true)
    (h : _root_.PySem.wpAt M A c (attributeBase o name env (eval o env)) (fun ov s₁ => wpAny M A (getMethod ov name (do return (← importBound o env).getD true))
      (fun fx s₂ => wpAny M A (callWith pos fx.1 fx.2 (backTo pos (starEach args env)) (backToKw pos (keywordEach [] env))) Q E s₂) E s₁) E s) :
    _root_.PySem.wpAt M A c (eval (.Call (.Attribute o name apos) args [] pos) env) Q E s := by
  rw [arm_eval_Call]
  apply _root_.PySem.wpAt_bind
  apply _root_.PySem.wpAt_mono h
  · intro ov s₁ h₁
    apply _root_.PySem.wpAt_of_wpAny
    apply wpAny_bind
    apply wpAny_standAt
    have hp : methodCallPos true o env apos pos = pure pos := by
      unfold methodCallPos
      simp [hl]
    unfold methodCall
    rw [hf]
    apply wpAny_bind
    apply wpAny_holding
    apply wpAny_mono h₁
    · intro fx s₂ h₂
      exact wpAny_bind (wpAny_of_eq hp h₂)
    · intro _ _ z
      exact z
  · intro _ _ z
    exact z
section
variable {prog : Program} {w : World} {A : Around} {E : Value → Shared → Prop} {R : Result → Shared → Prop} {s : Shared} {K : Frag} {mg mb : Str → Option Value} {C fI : Addr} {qn msg : Str}
theorem sup_call {h : Heap} {g : Array GenState} {d : Drawn} {t : Nat} {os : OsState} {u e t0 : Addr} {one : Value} {Q : Value → Shared → Prop}
    {nm q : Str} {N : Addr} {bs bm sub : List Value} {sn : List Str} {ab : Bool} {col : Option Bool} {dd : Option Addr} {k0 k1 k2 k3 k5 : Option Value}
    (hC : h.get? C = some (excClassObj nm q C N bs bm true sn sub ab col dd k0 k1 k2 k3 k5 "ValueError.__new__")) (he : h.get? e = some (excO C t0)) (hu : h.get? u = some (kxs_mw "ValueError.__init__" e))
    (hq : ∀ h' t1, (∀ b o, b ≠ e → h.get? b = some o → h'.get? b = some o) → h'.get? e = some (excO C t1) → Q .none ⟨h', g, d, t, os⟩) :
    wpAny (model prog w) A (call (.ref u) [one]) Q E ⟨h, g, d, t, os⟩ := by
  refine wpAny_call (codeAny_of_tree (show wpAny _ (Around.in1 _) (callAny (.ref u) ⟨[one], []⟩) _ _ _ from ?_))
  have e1 : (Value.type "method-wrapper" == Value.type "method" || Value.type "method-wrapper" == Value.type "builtin_function_or_method" || Value.type "method-wrapper" == Value.type "method-wrapper") = true := by decide
  simp only [callAny]
  refine wpAny_bind (m := load u) (wpAny_load hu ?_)
  simp only [kxs_mw, e1, if_true]
  refine (KFB.if_so (by decide) (wpAny_bind (check_bound_init F.excBase_ValueError.toExcCallFacts hC he rfl ?_)))
  refine (wpAny_bind (wpAny_pure (wpAny_pure (And.intro (plainId_quiet F.excBase_ValueError.init.plain _) (codeAny_builtin F.excBase_ValueError.initEntry ?_)))))
  have lz : [one].length ≤ sizeLine := by
    rw [sizeLine_eq]
    exact (by decide : 1 ≤ 16777216)
  exact exc_init_tree (cls := .ref C) (t0 := t0) (dv := none) (c2 := .none) (c3 := .none) (b4 := .bool false) he lz (fun h₄ k₄ hx₄ _ => hq h₄ _ k₄ hx₄)
theorem err_init (T : ErrTxt prog K C fI qn msg) {x t0 : Addr} {v : Value} (X : K.In s.heap) (lim : s.heap.NoLimit) (gl : s.heap.Ns mainGlobals mg) (bl : s.heap.Ns builtinsNs mb)
    (bb : ∀ x : Str, x ≠ "__name__" → mb x = bootBuiltins x) (hx : s.heap.get? x = some (excO C t0)) (hnx : K.lookup x = none) (room : A.depth < recursionLimit)
    (hq : ∀ h' tk dx t1, InitEnd s.heap h' x C dx t1 v → R (.ok (.ret .none)) { s with heap := h', toks := tk }) :
    codeAny (model prog w) A (.call (.ref fI) ⟨[.ref x, v], []⟩) R s := by
  obtain ⟨oc, od, doc, pm, an, cda, cc, ct, osl, kk, p1, p2, p3, p4, p5, p6, q1, q2, q3, q4, r1, r2, ccl, cl, cdd, cld, vs, ccs, csl, file, tf, ho, hcd, hcode, hvs, hfile, hcell, hline⟩ := T.fn
  obtain ⟨nm, q, N, bs, bm, sn, sub, ab, col, dd, k0, k1, k2, k3, k5, hC, hbm⟩ := T.cls
  have hzs := mg_none_of X gl T.zs
  obtain ⟨hp, g, dr, tk, os⟩ := s
  refine ks_codeAny_call_defAt (binds := [("self", .ref x), ("count", v)]) room (X _ _ ho) rfl lim (codeRec_of X hcd) rfl (BindsTo.of_eq (by first | rfl | with_unfolding_all rfl)) iS_nocell (iS_loc _ _) (fun h₁ hns k₁ => ?_) rfl rfl rfl
  have X₁ : K.In h₁ := X.keeps k₁
  have hx₁ := k₁ _ _ hx
  refine ks_wpAt_execs_cons (ks_wpAt_Expr_any (at_method hline (by first | rfl | with_unfolding_all rfl) ?_))
  refine ks_wpAt_super_base rfl rfl (by decide) rfl (X₁ _ _ ho) rfl rfl rfl (X₁ _ _ hcode) rfl hvs hfile T.htop ?_
  refine ks_loadName_global rfl rfl (loadGlobal_builtin (gl.keeps k₁) hzs (bl.keeps k₁) ((bb _ (by decide +kernel)).trans (by decide +kernel : bootBuiltins "super" = some (.type "super"))) ⟨rfl, ?_⟩)
  refine wpAny_loadName_free rfl rfl rfl ⟨_, X₁ _ _ hcell, rfl⟩ ?_
  refine wpAny_loadName_local rfl rfl hns (v := .ref x) (by first | rfl | with_unfolding_all rfl) ?_
  refine ks_wpAny_isType_cls (X₁ _ _ hC) rfl ⟨rfl, ?_⟩
  refine ks_wpAny_call_super (X₁ _ _ hC) rfl hx₁ rfl (fun c e => nomatch e) (looks_mroIn X₁ T.sub) (fun h₂ e₂ k₂ => ?_)
  have X₂ : K.In h₂ := X₁.keeps k₂
  have hx₂ := k₂ _ _ hx₁
  have I₂ : InstAt h₂ x (excO C t0) C none := ⟨hx₂, rfl, rfl, trivial⟩
  have hcl : clsIn K C = some { name := nm, bases := bs, mro := .ref C :: bm, ns := N, qualname := q, hasDict := true, slotNames := sn, subclasses := sub, abstract := ab, collection := col, hasDel := false } := by
    unfold clsIn
    rw [hC]
    all_goals rfl
  have hm := T.sup
  unfold ks_superIn at hm
  rw [hcl] at hm
  have hI : Looks (model prog w) h₂ (isInstance (.ref x) (.type "ValueError")) true := I₂.type.andThen (looks_subIn X₂ T.veC)
  have hxC : x ≠ C := fun z => by
    rw [z, hC] at hnx
    cases hnx
  refine kxs_getMethod kxs_ValueError e₂ (looks_opaque X₂ T.op) (l₀ := .ref C :: bm) ?_ rfl X₂ hm hI hxC (by decide +kernel) ?_
  · exact fun A Q E s k q => wpAny_bind ((looks_clsIn X₂ hcl) A _ E s k (wpAny_pure q))
  have hu : (h₂.push (kxs_mw "ValueError.__init__" x)).get? h₂.objs.size = some (kxs_mw "ValueError.__init__" x) := Heap.get?_push_at rfl rfl
  have k₃ : ∀ b o, h₂.get? b = some o → (h₂.push (kxs_mw "ValueError.__init__" x)).get? b = some o := fun b o e => Heap.get?_push_of_some _ e
  have X₃ : K.In (h₂.push (kxs_mw "ValueError.__init__" x)) := X₂.keeps k₃
  have hx₃ := k₃ _ _ hx₂
  refine kxs_callWith (i := "ValueError.__init__") (x := x) (by rfl) (evalArgs_plain ?_)
  refine Calls.spliced_cons (Calls.Constant_str (k := kk) (pos := p4) ?_)
  refine Calls.spliced_nil ⟨hu, ?_⟩
  refine sup_call (X₃ _ _ hC) hx₃ hu (fun h₄ t1 k₄ hx₄ => ?_)
  -- self.found = found
  have X₄ : K.In h₄ := fun a o e => k₄ a o (fun z => by rw [z, hnx] at e; cases e) (X₃ a o e)
  have hLx : hp.objs.size ≠ x := Nat.ne_of_gt (Heap.lt_size hx)
  have hn₄ := hns
  obtain ⟨oL, es, ep, eL, rL⟩ := hn₄
  have hn₄ : h₄.Ns hp.objs.size _ := ⟨oL, es, ep, k₄ _ _ hLx (k₃ _ _ (k₂ _ _ eL)), rL⟩
  have big : hp.objs.size < h₄.objs.size := hn₄.lt
  show _root_.PySem.wpAt _ _ _ (execs _ _) _ _ _
  refine _root_.PySem.wpAt_of_wpAny (wpAny_execs_cons (plainObj_wpAny_Assign_Attribute ?_))
  refine wpAny_Name (wpAny_loadName_local rfl rfl hn₄ (v := v) (by first | rfl | with_unfolding_all rfl) ?_) (by decide)
  refine wpAny_Name (wpAny_loadName_local rfl rfl hn₄ (v := .ref x) (by first | rfl | with_unfolding_all rfl) ?_) (by decide)
  refine set_plain X₄ (ox := excO C t1) (od := none) ⟨hx₄, rfl, rfl, trivial⟩ T.sa ?_
  refine HandSPX.exc_osa X₄ hx₄ hcl (show refsVE (.ref C :: bm) = true from hbm) rfl T.noN (fun h₅ tk₅ dx k₅ dn dne hx₅ hn₅ => ?_)
  show wpAny _ _ (execs _ _) _ _ _
  exact wpAny_execs_nil (hq h₅ tk₅ dx t1 ⟨fun b o hb e => k₅ b o hb (k₄ b o hb (k₃ b o (k₂ b o (k₁ b o e)))), hx₅, Nat.le_trans (Nat.le_of_lt big) dn, dne, hn₅⟩)
/-- an error that was made: its own dict d holds the thing -/
structure OwnMade (h h' : Heap) (e C d : Addr) (v : Value) : Prop where
  keep : ∀ b o, h.get? b = some o → h'.get? b = some o
  new : h.objs.size ≤ e
  obj : ∃ oe vs, h'.get? e = some oe ∧ oe.cls = .ref C ∧ oe.dict = some d ∧ oe.data = .fields vs ∧ vs[1]? = some .none
  dbig : h.objs.size ≤ d
  dne : d ≠ e
  ns : h'.Ns1 d (fun y => if y = "count" then some v else none)
theorem one_size (v : Value) : [v].length ≤ sizeLine := by
  rw [sizeLine_eq]
  exact (by decide : 1 ≤ 16777216)
theorem err_made (T : ErrTxt prog K C fI qn msg) {v : Value} (X : K.In s.heap) (lim : s.heap.NoLimit) (gl : s.heap.Ns mainGlobals mg) (bl : s.heap.Ns builtinsNs mb)
    (bb : ∀ x : Str, x ≠ "__name__" → mb x = bootBuiltins x) (room : A.depth + 1 < recursionLimit)
    (hq : ∀ h' tk e d, OwnMade s.heap h' e C d v → R (.ok (.ret (.ref e))) { s with heap := h', toks := tk }) :
    codeAny (model prog w) A (.call (.ref C) ⟨[v], []⟩) R s := by
  obtain ⟨nm, q, N, bs, bm, sn, sub, ab, col, dd, k0, k1, k2, k3, k5, hC, hbm⟩ := T.cls
  obtain ⟨hp, g, dr, tk, os⟩ := s
  have k : ∀ b o, hp.get? b = some o → ((hp.push (kdv_tup [v])).push (excO C hp.objs.size)).get? b = some o := fun b o e => Heap.get?_push_of_some _ (Heap.get?_push_of_some _ e)
  have hget : ((hp.push (kdv_tup [v])).push (excO C hp.objs.size)).get? (hp.objs.size + 1) = some (excO C hp.objs.size) := by heap_get
  have hnx : K.lookup (hp.objs.size + 1) = none := by
    cases e : K.lookup (hp.objs.size + 1) with
    | none => rfl
    | some o =>
      have z : hp.get? (hp.objs.size + 1) = some o := X _ _ e
      exact absurd (Nat.lt_of_succ_lt (Heap.lt_size z)) (Nat.lt_irrefl _)
  refine HandSPX.call_own F.excBase_ValueError (fun X => refsVE_contains X bm hbm) (X _ _ hC) (looks_findIn X T.iC) (fun self => bind_fn X self T.tC) (one_size v) ?_
  refine err_init (s := ⟨(hp.push (kdv_tup [v])).push (excO C hp.objs.size), g, dr, tk, os⟩) T (X.keeps k) (lim.keeps k) (gl.keeps k) (bl.keeps k) bb hget hnx ?_ fun h' tk' dx t1 ⟨k', hx, dn, dne, hns⟩ => ?_
  · show A.depth + 1 < recursionLimit
    exact room
  · have old : ∀ b o, hp.get? b = some o → h'.get? b = some o := fun b o e => k' b o (Nat.ne_of_lt (Nat.lt_succ_of_lt (Heap.lt_size e))) (k b o e)
    have z : hp.objs.size + 1 + 1 ≤ dx := by
      first
        | (simpa only [Heap.size_push] using dn)
        | exact dn
        | (have q := dn; rw [Heap.size_push, Heap.size_push] at q; exact q)
    exact ⟨rfl, hq h' tk' (hp.objs.size + 1) dx ⟨old, Nat.le_succ _, ⟨_, _, hx, rfl, rfl, rfl, rfl⟩, Nat.le_trans (Nat.le_trans (Nat.le_succ _) (Nat.le_succ _)) z, dne, hns⟩⟩
end
end Gc
namespace Gc
open PySem PySem.Spec PyProof.Rows L2
theorem relO_f {v : V} {v' : Value} (r : RelV v v') (f : Str) : RelO (List.lookup f [(("count" : Str), v)]) (if f = "count" then some v' else none) := by
  by_cases hw : f = "count"
  · subst hw
    rw [if_pos rfl]
    have q : List.lookup ("count" : Str) [(("count" : Str), v)] = some v := by simp [List.lookup]
    rw [q]
    exact r
  · rw [if_neg hw]
    have qw : (f == ("count" : Str)) = false := by simpa using hw
    have q2 : List.lookup f [(("count" : Str), v)] = none := by simp [List.lookup, qw]
    rw [q2]
    trivial
section
variable {X : Cx} {C fI : Addr} {qn msg cn : Str}
/-- E(e) -/
def tMkE (C : Addr) (ta : TA) : L2.St → Hp → XK → Prop := fun σ H Q => ta σ H fun vs H1 => ∃ v, vs = [v] ∧ ∀ d, H1 d = none → Q (.ref C) (some d) (upd H1 d (.xd [(("count" : Str), v)]))
theorem pmk_err {a : Expr} {ta : TA} {p pos : Pos} {k : Nat} (T : ErrTxt X.prog X.K C fI qn msg) (gC : X.mg cn = some (.ref C)) (hr : Room k X.A) (ha : PA X [a] ta) (hg : Gl X cn)
    (hdb : (cn == ("__debug__" : Str)) = false := by decide)
    (he : starEach (a :: []) X.env = (false, eval a X.env) :: starEach [] X.env := by rfl) (hpl : (backTo pos (starEach [] X.env)).any (·.1) = false := by rfl) :
    PMk X (.Call (.Name cn p) [a] [] pos) (tMkE C ta) := by
  intro pins s σ H Q I h
  apply wpAny_Call_Name_kw
  apply ld_glob I hg gC (hd := hdb)
  refine PySem.W.callWith_K (h₀ := X.base) I.ok.mod.kin T.kC (thn (ha.run pos pins s σ H _ I h) ?_) he hpl
  rintro us s1 ⟨vs, H1, I1, r1, v, ev, q1⟩
  subst ev
  refine ⟨I1.kIn, ?_⟩
  cases r1 with
  | cons rv rn =>
    rename_i v' us'
    cases rn
    show wpAny _ _ (call (.ref C) [v']) _ _ _
    have hlim := I1.nolimit
    have hgl := I1.mod.glob.keeps I1.bk
    obtain ⟨mb, hbl0, hbb⟩ := I1.mod.blt
    have hbl := hbl0.keeps I1.bk
    obtain ⟨hp, g, dr, tk, os⟩ := s1
    refine wpAny_call (err_made T I1.kIn hlim hgl hbl hbb (by have := hr.dp; omega) fun h' tk' e d M => ?_)
    show MkP X pins σ Q (.ref e) ⟨h', g, dr, tk', os⟩
    obtain ⟨oe, fv, hoe, hc, hd, hdat, h1⟩ := M.obj
    have hns := M.ns
    obtain ⟨G', g1, g2⟩ := restrict h' fun b => decide (b ≠ e)
    have gk : ∀ b, b ≠ e → G'.get? b = h'.get? b := fun b hb => g1 b (decide_eq_true hb)
    have ge : G'.get? e = none := g2 e (by simp)
    have old : ∀ b o, hp.get? b = some o → G'.get? b = some o := fun b o q => (gk b (Nat.ne_of_lt (Nat.lt_of_lt_of_le (Heap.lt_size q) M.new))).trans (M.keep b o q)
    have ob : ObjOk X.prog X.w (upd H1 d (.xd [(("count" : Str), v)])) G' d (.xd [(("count" : Str), v)]) :=
      ⟨_, hns.at (fun o q => (gk d M.dne).trans q), fun f => relO_f rv f⟩
    have J : Inv X pins σ (upd H1 d (.xd [(("count" : Str), v)])) ⟨G', g, dr, tk', os⟩ := I1.laid (t' := tk') old M.dbig ob
    refine ⟨e, oe, fv, ⟨G', g, dr, tk', os⟩, _, .ref C, some d, rfl, J, fun b o q => ?_, ge, hoe, ⟨hc, hd⟩, hdat, h1, ?_, rfl, I1.bare, raises_own T.exC T.tyC, q1 d (I1.hok.fresh M.dbig)⟩
    · by_cases hb : b = e
      · have q' : G'.get? b = some o := q
        rw [hb, ge] at q'
        cases q'
      · exact (gk b hb).symm.trans q
    · rw [upd_ne (Ne.symm M.dne)]
      exact I1.hok.fresh M.new
/-- raise E(e) -/
def tRaiseE (C : Addr) (W : WX) (ta : TA) : TS := fun _ σ H => tMkE C ta σ H fun cls d H' => W cls d σ H'
theorem ps_raiseE {a : Expr} {ta : TA} {W : WX} {p pos pos2 : Pos} {k : Nat} (hc : X.calm = true) (T : ErrTxt X.prog X.K C fI qn msg) (gC : X.mg cn = some (.ref C)) (hr : Room k X.A) (tk : Takes X W) (ha : PA X [a] ta) (hg : Gl X cn)
    (hdb : (cn == ("__debug__" : Str)) = false := by decide)
    (he : starEach (a :: []) X.env = (false, eval a X.env) :: starEach [] X.env := by rfl) (hpl : (backTo pos (starEach [] X.env)).any (·.1) = false := by rfl) :
    PS X (.Raise (some (.Call (.Name cn p) [a] [] pos)) none pos2) (tRaiseE C W ta) := ps_raise hc tk (pmk_err T gC hr ha hg hdb he hpl)
/-- e.found, e the exception that the suite holds (at a; its class cls, its dict d) -/
def tFound (C : Addr) (a : Addr) (cls : Value) (d : Option Addr) (te : TE) : TE := fun σ H Q => te σ H fun x H1 => x = .ref a ∧ cls = .ref C ∧ ∃ (dd : Addr) (v : V), d = some dd ∧ H1 dd = some (.xd [(("count" : Str), v)]) ∧ Q v H1
theorem pe_found {a : Addr} {oe : Obj} {cls : Value} {d : Option Addr} {pn : List (Addr × Obj)} {e : Expr} {te : TE} {pos : Pos} (T : ErrTxt X.prog X.K C fI qn msg) (hz : Zc cls d oe) (hf : ∃ vs, oe.data = .fields vs) (he : PE (X.suite a ((a, oe) :: pn)) e te)
    (hb : attributeBase e "count" X.env (eval e X.env) = eval e X.env := by rfl) :
    PE (X.suite a ((a, oe) :: pn)) (.Attribute e "count" pos) (tFound C a cls d te) := by
  constructor
  intro pins s σ H Q I h
  refine attr_of hb (thn (he.run pins s σ H _ I h) ?_)
  rintro u s1 ⟨x, H1, I1, rx, ex, ec, dd, v, ed, ea, q⟩
  subst ex
  obtain rfl : u = Value.ref a := rx
  subst ec
  subst ed
  have ha := (I1.pin (a, oe) (List.mem_append_left _ List.mem_cons_self)).1
  obtain ⟨vs, hd⟩ := hf
  have hx : ObjOk X.prog X.w H1 s1.heap dd (.xd [(("count" : Str), v)]) := I1.hok dd _ ea
  obtain ⟨mA, hns, hr⟩ := hx
  obtain ⟨od, ho, hl⟩ := lookIn_ns hns
  have l : List.lookup ("count" : Str) [(("count" : Str), v)] = some v := by simp [List.lookup]
  obtain ⟨u, hu, ru⟩ := RelO.some_of (v := v) (o := mA "count") (by rw [← l]; exact hr "count")
  have J : PySem.W.InstAt s1.heap a oe C (some od) := by
    refine ⟨ha, hz.1, ?_, by rw [hz.2]; exact ho⟩
    unfold PySem.W.notCls
    rw [hd]
    all_goals rfl
  exact HandSPX.exc_get I1.kIn J T.ga T.gg T.exC (PySem.W.findObj_own T.hdC T.noN rfl (by rw [hl, hu])) (handed_of ru) ⟨v, H1, I1.tok _, ru, q⟩
/-- what a class of errors must say so that isinstance asks it -/
structure IsTxt (K : PySem.W.Frag) (C : Addr) : Prop where
  ha : PySem.W.findIn K (.ref C) "__class__" = some (some (.builtin "object.__class__"))
  hn : PySem.W.specialIn K (.builtin "object.__class__") "__get__" = some (some (.builtin "getset_descriptor.__get__"))
  ht : PySem.W.takesIn K (.builtin "object.__class__") = some true
  hm : PySem.W.mroIn K C (.type "object") = some true
/-- isinstance(e, c), e the exception that the suite holds, with its own dict -/
def rIsF (K : PySem.W.Frag) (C a : Addr) (cls : Value) (d : Option Addr) : List V → Hp → VK → Prop := fun xs H Q => ∃ (c : V) (cv : Value) (b : Bool) (dd : Addr) (v : V), xs = [.ref a, c] ∧ cls = .ref C ∧ d = some dd ∧
  H dd = some (.xd [(("count" : Str), v)]) ∧ ClsV c cv ∧ PySem.W.kitOne K (.ref C) cv = some b ∧ Q (.bl b) H
theorem call_isF {a : Addr} {oe : Obj} {cls : Value} {d : Option Addr} {pn : List (Addr × Obj)} (T : ErrTxt X.prog X.K C fI qn msg) (S : IsTxt X.K C) (hz : Zc cls d oe) (hf : ∃ vs, oe.data = .fields vs) :
    CallR (X.suite a ((a, oe) :: pn)) (.builtin "isinstance") (rIsF X.K C a cls d) := by
  intro pins s σ H xs us Q I r h
  obtain ⟨c, cv, b, dd, v, rfl, rfl, rfl, ea, hcv, e, q⟩ := h
  obtain ⟨u1, u2, rfl, r1, r2⟩ := vals2 r
  cases (show u1 = Value.ref a from r1)
  have e2 := hcv.eq r2
  subst e2
  have ha := (I.pin (a, oe) (List.mem_append_left _ List.mem_cons_self)).1
  obtain ⟨vs, hd⟩ := hf
  have hx : ObjOk X.prog X.w H s.heap dd (.xd [(("count" : Str), v)]) := I.hok dd _ ea
  obtain ⟨mA, hns, _⟩ := hx
  obtain ⟨od, ho, _⟩ := lookIn_ns hns
  have J : PySem.W.InstAt s.heap a oe C (some od) := by
    refine ⟨ha, hz.1, ?_, by rw [hz.2]; exact ho⟩
    unfold PySem.W.notCls
    rw [hd]
    all_goals rfl
  have hcl : (PySem.W.clsIn X.K C).isSome = true := by
    obtain ⟨cd, hc, _⟩ := PySem.W.any_some T.hdC
    rw [hc]
    rfl
  exact PySem.W.kia_one (PySem.W.kitx_exc hcl T.ga T.gg T.exC S.ha S.hn S.ht S.hm) I.kIn J e (fun z => nomatch z) fun tk => ⟨.bl b, H, I.kept (t' := tk) fun _ _ z => z, rfl, q⟩
end
end Gc
/-! Defs that raise, their promise kept where no repr is under way. -/
namespace Gd
open PySem PySem.Spec PyProof.Rows L2
structure CalX (P : Program) (w : World) (K : PySem.W.Frag) (mg : Str → Option Value) (base : Heap) (k : Nat) (x : Str) (sp : Sp) : Prop where
  ex : ∃ (f : Addr) (fd : FuncData) (ps : List Str), FnG P w K mg base (L2.CX P w) k f fd ps sp ∧ mg x = some (.ref f) ∧
    PySem.W.keepIn K (.ref f) = true ∧ Binds K fd ps []
section
variable {P : Program} {w : World} {K : PySem.W.Frag} {mg : Str → Option Value} {base : Heap}
theorem okGX {x qual : Str} {st : Stmt} {f : Addr} {fd : FuncData} {N ps : List Str} {k : Nat} {sp : Sp}
    (F : Fun K x qual st f fd) (S : FnScope N ps (defScope st))
    (ar : ∀ vs H Q E, sp vs H Q E → vs.length = ps.length)
    (bd : ∀ (cdv : Value) (A : Around) (outer : List Env) (s : Shared) (H : Hp) (vs : List V) (Q : VK) (E : XK),
      A.guards = some [] → Room k (A.deeper (envOfC qual (defScope st) s.heap.objs.size f cdv)) → sp vs H Q E →
      ∃ t, PSs (cxOf (L2.CX P w) P w K mg base N qual (defScope st) f cdv A outer s H E) (defBody st) t ∧
        t { nx := fun _ H' => Q .non H', rt := Q } (start N vs) H) :
    FnG P w K mg base (L2.CX P w) (k + 1) f fd ps sp := by
  obtain ⟨oc, od, kV, doc, pm, an, cdv, ct, osl, rfl, lk, cin⟩ := F.ex
  exact fnG_of lk cin S ar fun A outer s H vs Q E hG room prem => bd cdv A outer s H vs Q E hG room prem
theorem DefAt.calX {x : Str} {st : Stmt} {N ps : List Str} {k : Nat} {sp : Sp} (D : DefAt K mg x st ps) (S : FnScope N ps (defScope st))
    (ar : ∀ vs H Q E, sp vs H Q E → vs.length = ps.length)
    (bd : ∀ (f : Addr) (cdv : Value) (A : Around) (outer : List Env) (s : Shared) (H : Hp) (vs : List V) (Q : VK) (E : XK),
      A.guards = some [] → Room k (A.deeper (envOfC x (defScope st) s.heap.objs.size f cdv)) → sp vs H Q E →
      ∃ t, PSs (cxOf (L2.CX P w) P w K mg base N x (defScope st) f cdv A outer s H E) (defBody st) t ∧
        t { nx := fun _ H' => Q .non H', rt := Q } (start N vs) H) : CalX P w K mg base (k + 1) x sp := by
  obtain ⟨f, fd, F, m, b⟩ := D.ex
  exact ⟨f, fd, ps, okGX F S ar (bd f), m, F.kp, b⟩
end
section
variable {X : Cx} {k : Nat} {sp : Sp} {x : Str} {p pos : Pos} {e : Expr} {es : List Expr} {t : TA} {E : L2.St → XK}
theorem enterX {CX : CXT} {f : Addr} {fd : FuncData} {ps : List Str} {pins : List (Addr × Obj)} {σ : L2.St} {H : Hp} {s : Shared} {Q : VK} {us : List Value} {vs : List V} (F : FnG X.prog X.w X.K X.mg X.base CX k f fd ps sp) (hG : X.A.guards = some []) (hr : Room k X.A) (hb : Binds X.K fd ps []) (hx : PassesAt CX X σ (E σ))
    (I : Inv X pins σ H s) (r : Vals vs us) (h : sp vs H Q (E σ)) : wpAny (model X.prog X.w) X.A (call (.ref f) us) (EP X pins σ Q) X.xe s := by
  have hl : us.length = ps.length := r.length ▸ F.arity _ _ _ _ h
  have b := hb s us I.kIn (by rw [List.append_nil]; exact hl)
  rw [List.append_nil] at b
  apply wpAny_call
  apply codeAny_mono (F.go X.A X.stack s H ⟨us, []⟩ us vs Q (E σ) hG hr I.env0 b r h)
  intro r s' hq
  match r, hq with
  | .error e, hq => exact hx pins H s e s' I hq
  | .ok (.ret u), hq => exact I.after hq
  | .ok .next, hq => exact hq.elim
  | .ok .brk, hq => exact hq.elim
  | .ok .cont, hq => exact hq.elim
/-- f(e, ..) of a def that may raise, its promise kept where no repr is under way -/
theorem pe_gx {W : WX} (c : CalX X.prog X.w X.K X.mg X.base k x sp) (hG : X.A.guards = some []) (hr : Room k X.A) (hg : Gl X x) (tk : Takes X W)
    (ha : PA X (e :: es) t) (hdb : (x == ("__debug__" : Str)) = false := by decide)
    (he : starEach (e :: es) X.env = (false, eval e X.env) :: starEach es X.env := by rfl)
    (hpl : (backTo pos (starEach es X.env)).any (·.1) = false := by rfl) :
    PE X (.Call (.Name x p) (e :: es) [] pos) (tCallS sp (WE W) t) := by
  obtain ⟨f, fd, ps, F, m, kp, b⟩ := c.ex
  constructor
  intro pins s σ H Q J prem
  have arg := ha.run pos pins s σ H _ J prem
  apply wpAny_Call_Name_kw
  apply ld_glob J hg m (hd := hdb)
  apply PySem.W.callWith_K (h₀ := X.base) J.ok.mod.kin kp (he := he) (hplain := hpl)
  apply thn arg
  rintro us s1 ⟨vs, H1, J1, rel, q⟩
  exact ⟨J1.kIn, enterX (E := WE W) F hG hr b (passAt tk σ) J1 rel q⟩
/-- the same, where it raises nothing -/
theorem pe_gN (c : CalX X.prog X.w X.K X.mg X.base k x sp) (hG : X.A.guards = some []) (hr : Room k X.A) (hg : Gl X x)
    (ha : PA X (e :: es) t) (hdb : (x == ("__debug__" : Str)) = false := by decide)
    (he : starEach (e :: es) X.env = (false, eval e X.env) :: starEach es X.env := by rfl)
    (hpl : (backTo pos (starEach es X.env)).any (·.1) = false := by rfl) :
    PE X (.Call (.Name x p) (e :: es) [] pos) (tCall sp [] E0 t) := by
  obtain ⟨f, fd, ps, F, m, kp, b⟩ := c.ex
  exact pe_callG F hG hr hg m kp b .nil passL ha hdb he hpl
end
end Gd
/-! A method whose body begins with a call of super().m(..), an own class's, the method that it finds a def that keeps its promise. -/
namespace Gs
open PySem PySem.Spec PyProof.Rows L2 Gd NdefX
open PySem.Calls
open PySem.W (Frag ksFn ks_superIn ks_loadName_global looks_mroIn looks_opaque looks_clsIn clsIn)
/-- what the written part says of the def F at f, of class D, and of super().m in it, g above D as seen from C -/
structure SupTxt (P : Program) (K : Frag) (C D f g cc : Addr) (F : NF) (m : Str) : Prop where
  fn : ∃ (oc : Value) (od : Option Addr) (doc pm : Value) (an : Option Addr) (ct : Value) (osl : Array (Option Value)),
    K.lookup f = some ⟨oc, od, .func (ksFn F.name F.qual F.params F.body F.scope .none .none doc pm an (.ref F.c) ct cc), osl⟩
  cl : F.cl = [(("__class__" : Str), cc)]
  code : PySem.W.codeIn K (.ref F.c) F.qual = true
  cod : ∃ (ccl : Value) (cdd : Option Addr) (vs : Array Value) (ccs : Array (Option Value)) (file : Str) (tf : Tok),
    K.lookup F.c = some ⟨ccl, cdd, .fields vs, ccs⟩ ∧ vs[2]? = some (.str file tf) ∧ ((P.main.file : Str) == file) = true
  cell : ∃ (cv : Value) (cd : Option Addr) (csl : Array (Option Value)), K.lookup cc = some ⟨cv, cd, .cell (some (.ref D)), csl⟩
  isD : ∃ cd, clsIn K D = some cd
  sub : PySem.W.mroIn K C (.ref D) = some true
  sup : ks_superIn K C D m = some (some (.ref g))
  ty : PySem.W.typeIn K (.ref g) = some (.type "function")
  fg : PySem.W.fnIn K g = true
  op : PySem.W.nsIn K cStatics "thirdparty.any" = some none
  zs : PySem.W.nsIn K mainGlobals "super" = some none
  htop : (P.main.scope.names.lookup ("super" : Str)).isSome = false
  hm : (m == ("__class__" : Str)) = false
  hks : F.scope.names.lookup ("super" : Str) = some .globalImplicit
  hkc : F.scope.names.lookup ("__class__" : Str) = some .free
  hself : F.scope.names.lookup ("self" : Str) = some .local
  arg : ∃ ar, (F.params.posonlyargs ++ F.params.args).head? = some ar ∧ ar.arg = "self"
section
variable {CX : CXT} {P : Program} {w : World} {K : Frag} {mg : Str → Option Value} {base : Heap} {N : List Str} {F : NF} {f g C D cc : Addr} {A : Around} {outer : List Env} {s0 : Shared} {H0 : Hp} {E0 : XK} {m : Str}
theorem at_super {body : List Stmt} {p0 p1 apos pos : Pos} {args : List Expr} {s : Shared} {pins : List (Addr × Obj)} {σ : L2.St} {H : Hp} {x dx : Addr} {fs : List (Str × V)} {Q : Value → Shared → Prop}
    (T : SupTxt P K C D f g cc F m) (hline : (apos.endLine == pos.line) = true)
    (hform : methodCallForm (args.length + ([] : List Keyword).length) (backTo pos (starEach args (envF F f s0.heap.objs.size))) (backToKw pos (keywordEach [] (envF F f s0.heap.objs.size))) = true)
    (I : Inv (ncx CX P w K mg base N F f A outer s0 H0 E0) pins σ H s) (hN : N[0]? = some ("self" : Str)) (hσ : σ[0]? = some (some (.ref x))) (hx : H x = some (.ins C dx fs))
    (h : ∀ (q : Addr) (s' : Shared), Inv (ncx CX P w K mg base N F f A outer s0 H0 E0) (pins ++ [(q, PySem.W.methodObj (.ref g) (.ref x))]) σ H s' →
      wpAny (model P w) (ncx CX P w K mg base N F f A outer s0 H0 E0).A (callWith pos (.ref q) [] (backTo pos (starEach args (envF F f s0.heap.objs.size))) (backToKw pos (keywordEach [] (envF F f s0.heap.objs.size)))) Q (ncx CX P w K mg base N F f A outer s0 H0 E0).xe s') :
    _root_.PySem.wpAt (model P w) (ncx CX P w K mg base N F f A outer s0 H0 E0).A (.func body (envF F f s0.heap.objs.size))
      (eval (.Call (.Attribute (.Call (.Name "super" p0) [] [] p1) m apos) args [] pos) (envF F f s0.heap.objs.size)) Q (ncx CX P w K mg base N F f A outer s0 H0 E0).xe s := by
  obtain ⟨oc, od, doc, pm, an, ct, osl, hf⟩ := T.fn
  obtain ⟨ccl, cdd, vs, ccs, file, tf, hcode, hvs, hfile⟩ := T.cod
  obtain ⟨cv, cd0, csl, hcell⟩ := T.cell
  obtain ⟨ar, harg, hself⟩ := T.arg
  obtain ⟨cdD, hD⟩ := T.isD
  have X := I.kIn
  obtain ⟨mb, hbl0, hbb⟩ := I.mod.blt
  have hgl := I.mod.glob.keeps I.bk
  have hbl := hbl0.keeps I.bk
  have hzs := PySem.W.mg_none_of I.mod.kin I.mod.glob T.zs
  obtain ⟨mA, O, _⟩ := ins_get I.hok hx
  obtain ⟨ml, hns, look⟩ := I.loc
  refine Ge.at_method hline hform ?_
  refine ks_wpAt_super_base T.hks T.hkc T.hm rfl (X _ _ hf) rfl harg rfl (X _ _ hcode) rfl hvs hfile T.htop ?_
  refine ks_loadName_global I.ok.kind T.hks (loadGlobal_builtin hgl hzs hbl ((hbb _ (by decide +kernel)).trans (by decide +kernel : bootBuiltins "super" = some (.type "super"))) ⟨rfl, ?_⟩)
  refine wpAny_loadName_free I.ok.kind T.hkc (by show F.cl.lookup _ = _; rw [T.cl]; rfl) ⟨_, X _ _ hcell, rfl⟩ ?_
  have eS : (ncx CX P w K mg base N F f A outer s0 H0 E0).env.scope.names.lookup ("self" : Str) = some .local := T.hself
  obtain ⟨u, ru, lk⟩ := look 0 ("self" : Str) (.ref x) hN hσ (.inl eS)
  have hml : ml ("self" : Str) = some (.ref x) := by
    rcases lk with ⟨_, z⟩ | ⟨z, _⟩
    · rw [z]
      exact congrArg some ru
    · rcases z with z | z
      · have : some NameKind.local = some NameKind.cell := eS.symm.trans z
        cases this
      · have : some NameKind.local = some NameKind.free := eS.symm.trans z
        cases this
  refine wpAny_loadName_local I.ok.kind (by rw [hself]; exact T.hself) hns (v := .ref x) (by rw [hself]; exact hml) ?_
  obtain ⟨oD, hD1, hD2⟩ : ∃ oD, s.heap.get? D = some oD ∧ oD.data = .cls cdD := by
    unfold clsIn at hD
    split at hD
    · rename_i c d cd' sl ho
      cases hD
      exact ⟨_, X _ _ ho, rfl⟩
    · cases hD
  refine ks_wpAny_isType_cls hD1 hD2 ⟨rfl, ?_⟩
  obtain ⟨hp, gs, dr, tk, os⟩ := s
  refine ks_wpAny_call_super hD1 hD2 O.obj rfl (fun c e => nomatch e) (looks_mroIn X T.sub) (fun h₂ e₂ k₂ => ?_)
  have J2 : Inv (ncx CX P w K mg base N F f A outer s0 H0 E0) pins σ H ⟨h₂, gs, dr, tk, os⟩ := I.kept (t' := tk) k₂
  have X₂ := J2.kIn
  have hsup := T.sup
  cases hc : clsIn K C with
  | none =>
    unfold ks_superIn at hsup
    rw [hc] at hsup
    cases hsup
  | some cd =>
    unfold ks_superIn at hsup
    rw [hc] at hsup
    obtain ⟨of, hof, hofc⟩ : ∃ of, h₂.get? g = some of ∧ of.cls = .type "function" := by
      have ht := T.ty
      have ht' : (K.lookup g).map (·.cls) = some (.type "function") := ht
      cases z : K.lookup g with
      | none =>
        rw [z] at ht'
        cases ht'
      | some of =>
        rw [z] at ht'
        exact ⟨of, X₂ _ _ z, Option.some.inj ht'⟩
    have hxC : x ≠ C := fun e => by
      unfold clsIn at hc
      cases z : K.lookup C with
      | none =>
        rw [z] at hc
        cases hc
      | some oC =>
        have hb := I.mod.kin _ _ z
        have := (I.bs C oC hb).2
        rw [← e, hx] at this
        cases this
    refine ks_wpAny_getMethod_super e₂ (looks_opaque X₂ T.op) (l₀ := cd.mro) ?_ rfl X₂ hsup hof hofc hxC T.hm ?_
    · exact fun A Q E s k q => wpAny_bind ((looks_clsIn X₂ hc) A _ E s k (wpAny_pure q))
    · have k₃ : ∀ b o, h₂.get? b = some o → (h₂.push (PySem.W.methodObj (.ref g) (.ref x))).get? b = some o := fun b o e => Heap.get?_push_of_some _ e
      have J3 : Inv (ncx CX P w K mg base N F f A outer s0 H0 E0) pins σ H ⟨h₂.push (PySem.W.methodObj (.ref g) (.ref x)), gs, dr, tk + 1, os⟩ := J2.kept (t' := tk + 1) k₃
      refine h h₂.objs.size _ (J3.pins_of fun p hp => ?_)
      rcases List.mem_append.mp hp with hp | hp
      · exact J3.pin p (List.mem_append_right _ hp)
      · rw [List.mem_singleton.mp hp]
        refine ⟨Heap.get?_push_at rfl rfl, J2.hok.fresh (Nat.le_refl _), Nat.ne_of_gt J2.lt, J2.nofs (Nat.le_refl _), fun v e => nomatch e⟩
/-- a call of the found method, its self bound -/
theorem run_bound {X : Cx} {CX2 : CXT} {k : Nat} {g q x : Addr} {fd : FuncData} {ps : List Str} {sp : Sp} {E : XK} {pins : List (Addr × Obj)} {σ : L2.St} {H : Hp} {s : Shared} {Q : VK} {us : List Value} {vs : List V}
    (G : FnOk X.prog X.w X.K X.mg X.base CX2 k g fd ps sp) (hr : Room k X.A) (hb : Binds X.K fd ps []) (hx : Passes CX2 X E) (I : Inv X pins σ H s)
    (hq : s.heap.get? q = some (PySem.W.methodObj (.ref g) (.ref x))) (r : Vals vs us) (h : sp (.ref x :: vs) H Q E) :
    wpAny (model X.prog X.w) X.A (call (.ref q) us) (EP X pins σ Q) X.xe s := by
  have r2 : Vals (.ref x :: vs) (.ref x :: us) := .cons rfl r
  have long : (Value.ref x :: us).length = ps.length := r2.length ▸ G.len _ _ _ _ h
  have b := hb s (.ref x :: us) I.kIn (by rw [List.append_nil]; exact long)
  rw [List.append_nil] at b
  apply wpAny_call
  apply ks_codeAny_call_bound hq
  apply codeAny_mono (G.run X.A X.stack s H ⟨.ref x :: us, []⟩ (.ref x :: us) (.ref x :: vs) Q E hr I.env0 b r2 h)
  intro r s' hs
  match r, hs with
  | .error _, hs => exact hx pins σ H s _ s' I hs
  | .ok (.ret _), hs => exact I.after hs
  | .ok .next, hs => exact hs.elim
  | .ok .brk, hs => exact hs.elim
  | .ok .cont, hs => exact hs.elim
/-- super().m(e, ..) as a value -/
theorem eval_super {CX2 : CXT} {k : Nat} {fd : FuncData} {ps : List Str} {sp : Sp} {E : XK} {body : List Stmt} {p0 p1 apos pos : Pos} {e : Expr} {es : List Expr} {ta : TA} {s : Shared} {pins : List (Addr × Obj)} {σ : L2.St} {H : Hp} {x dx : Addr} {fs : List (Str × V)} {Q : VK}
    (T : SupTxt P K C D f g cc F m) (hline : (apos.endLine == pos.line) = true)
    (hform : methodCallForm ((e :: es).length + ([] : List Keyword).length) (backTo pos (starEach (e :: es) (envF F f s0.heap.objs.size))) (backToKw pos (keywordEach [] (envF F f s0.heap.objs.size))) = true)
    (I : Inv (ncx CX P w K mg base N F f A outer s0 H0 E0) pins σ H s) (hN : N[0]? = some ("self" : Str)) (hσ : σ[0]? = some (some (.ref x))) (hx : H x = some (.ins C dx fs))
    (G : FnOk P w K mg base CX2 k g fd ps sp) (hr : Room k (ncx CX P w K mg base N F f A outer s0 H0 E0).A) (hb : Binds K fd ps []) (hp : Passes CX2 (ncx CX P w K mg base N F f A outer s0 H0 E0) E)
    (ha : PA (ncx CX P w K mg base N F f A outer s0 H0 E0) (e :: es) ta)
    (he : starEach (e :: es) (envF F f s0.heap.objs.size) = (false, eval e (envF F f s0.heap.objs.size)) :: starEach es (envF F f s0.heap.objs.size))
    (hpl : (backTo pos (starEach es (envF F f s0.heap.objs.size))).any (·.1) = false)
    (h : ta σ H fun vs H1 => sp (.ref x :: vs) H1 Q E) :
    _root_.PySem.wpAt (model P w) (ncx CX P w K mg base N F f A outer s0 H0 E0).A (.func body (envF F f s0.heap.objs.size))
      (eval (.Call (.Attribute (.Call (.Name "super" p0) [] [] p1) m apos) (e :: es) [] pos) (envF F f s0.heap.objs.size)) (EP (ncx CX P w K mg base N F f A outer s0 H0 E0) pins σ Q) (ncx CX P w K mg base N F f A outer s0 H0 E0).xe s := by
  refine at_super T hline hform I hN hσ hx fun q s' J => ?_
  have run := ha.run pos _ s' σ H _ J h
  rw [show starEach (e :: es) (envF F f s0.heap.objs.size) = _ from he]
  rw [show starEach (e :: es) (ncx CX P w K mg base N F f A outer s0 H0 E0).env = _ from he] at run
  apply PySem.W.callWith_of (P := PySem.W.MethP K q g (.ref x)) (by show ((false || (backTo pos (starEach es _)).any (·.1)) || false) = false; rw [hpl]; rfl) (PySem.W.keeps_M T.fg)
  apply evalArgs_plain
  apply thn run
  rintro us s1 ⟨vs, H1, J1, rel, q1⟩
  have hq := (J1.pin (q, PySem.W.methodObj (.ref g) (.ref x)) (List.mem_append_right _ (List.mem_append_right _ List.mem_cons_self))).1
  refine ⟨⟨hq, J1.kIn⟩, ?_⟩
  refine wpAny_mono (run_bound (pins := pins ++ [(q, PySem.W.methodObj (.ref g) (.ref x))]) G hr hb hp J1 hq rel q1) (fun v s2 hv => ?_) fun _ _ z => z
  obtain ⟨y, H2, J2, ry, qy⟩ := hv
  exact ⟨y, H2, J2.pins_of fun p hp => J2.pin p (List.mem_append_right _ (List.mem_append_left _ hp)), ry, qy⟩
theorem cells_at (T : SupTxt P K C D f g cc F m) (e0 : Env0 P w K mg base A outer s0 H0) : CellsAt F.cl ["__class__"] [some (.ref D)] s0.heap H0 := by
  obtain ⟨cv, cd0, csl, hcell⟩ := T.cell
  have hb := e0.mod.kin _ _ hcell
  obtain ⟨h1, h2⟩ := e0.bs _ _ hb
  have hl : ∀ y c, F.cl.lookup y = some c → y = ("__class__" : Str) ∧ c = cc := fun y c z => by
    rw [T.cl] at z
    by_cases e : y = ("__class__" : Str)
    · subst e
      refine ⟨rfl, ?_⟩
      simpa [List.lookup] using z.symm
    · have e2 : (y == ("__class__" : Str)) = false := by simpa using e
      simp [List.lookup, e2] at z
  refine ⟨rfl, fun y c z => ?_, fun a b c z1 z2 => (hl a c z1).1.trans (hl b c z2).1.symm, fun i y z => ?_⟩
  · rw [(hl y c z).2]
    exact ⟨h2, _, _, h1, rfl⟩
  · cases i with
    | zero =>
      cases (show some ("__class__" : Str) = some y from z)
      refine ⟨cc, by rw [T.cl]; simp [List.lookup], fun v ev => ?_⟩
      cases (show some (some (V.ref D)) = some (some v) from ev)
      exact ⟨.ref D, rfl, _, h1, rfl⟩
    | succ n => cases z
/-- a def y = super().m(e, ..); .. keeps its promise -/
theorem okS_set {CX2 : CXT} {k i : Nat} {fd2 : FuncData} {ps ps2 : List Str} {sp sp2 : Sp} {p0 p1 apos pos py pst : Pos} {e : Expr} {es : List Expr} {st : List Stmt} {y : Str}
    {oc : Value} {od : Option Addr} {doc pm : Value} {an : Option Addr} {ct : Value} {osl : Array (Option Value)}
    (T : SupTxt P K C D f g cc F m) (hf : K.lookup f = some ⟨oc, od, .func (ksFn F.name F.qual F.params F.body F.scope .none .none doc pm an (.ref F.c) ct cc), osl⟩)
    (S : NScope N ps ["__class__"] F.scope)
    (hbd : F.body = .Assign [.Name y py] (.Call (.Attribute (.Call (.Name "super" p0) [] [] p1) m apos) (e :: es) [] pos) pst :: st)
    (ar : ∀ vs H Q E, sp vs H Q E → vs.length = ps.length) (hN : N[0]? = some ("self" : Str)) (hi : N[i]? = some y) (hy : F.scope.names.lookup y = some .local)
    (G : FnOk P w K mg base CX2 k g fd2 ps2 sp2) (hb2 : Binds K fd2 ps2 [])
    (hline : (apos.endLine == pos.line) = true)
    (hform : ∀ L, methodCallForm ((e :: es).length + ([] : List Keyword).length) (backTo pos (starEach (e :: es) (envF F f L))) (backToKw pos (keywordEach [] (envF F f L))) = true)
    (he : ∀ L, starEach (e :: es) (envF F f L) = (false, eval e (envF F f L)) :: starEach es (envF F f L))
    (hpl : ∀ L, (backTo pos (starEach es (envF F f L))).any (·.1) = false)
    (hsw : ∀ L, swapsWith (.Call (.Attribute (.Call (.Name "super" p0) [] [] p1) m apos) (e :: es) [] pos) (some (.Name y py)) pst.line (envF F f L) = pure false)
    (bd : ∀ (A : Around) (outer : List Env) (s : Shared) (H : Hp) (vs : List V) (Q : VK) (E : XK), Room k (A.deeper (envF F f s.heap.objs.size)) → sp vs H Q E →
      ∃ (x dx : Addr) (fs : List (Str × V)) (E2 : XK) (ta : TA) (tr : TS), (startF N vs [some (.ref D)])[0]? = some (some (.ref x)) ∧ H x = some (.ins C dx fs) ∧ Passes CX2 (ncx CX P w K mg base N F f A outer s H E) E2 ∧
        PA (ncx CX P w K mg base N F f A outer s H E) (e :: es) ta ∧ PSs (ncx CX P w K mg base N F f A outer s H E) st tr ∧
        ta (startF N vs [some (.ref D)]) H fun ws H1 => sp2 (.ref x :: ws) H1 (fun v H2 => tr { nx := fun _ H' => Q .non H', rt := Q } ((startF N vs [some (.ref D)]).set i (some v)) H2) E2) :
    FnOk P w K mg base CX (k + 1) f (ksFn F.name F.qual F.params F.body F.scope .none .none doc pm an (.ref F.c) ct cc) ps sp := by
  refine ⟨ar, fun A outer s H args us vs Q E room env bind rel prem => ?_⟩
  have kin : K.In s.heap := env.mod.kin.keeps fun b o z => (env.bs b o z).1
  have nl : s.heap.NoLimit := env.mod.nolimit.keeps fun b o z => (env.bs b o z).1
  have long := ar _ _ _ _ prem
  obtain ⟨x, dx, fs, E2, ta, tr, hσ, hx, hp, ha, hr, q⟩ := bd A outer s H vs Q E (room.deeper _) prem
  have cells := cells_at T env
  have TT := T
  obtain ⟨nm, qual, params, body, scope, cl, c⟩ := F
  have hcl : cl = [(("__class__" : Str), cc)] := T.cl
  subst hcl
  refine ks_codeAny_call_defAt (binds := ps.zip us) room.depth (kin _ _ hf) rfl nl (PySem.W.codeRec_of kin T.code) rfl bind S.nocell (fun z hz => S.par z.1 (List.of_mem_zip hz).1) (fun h₁ hns k₁ => ?_) S.co S.gen S.kind
  have I : Inv (ncx CX P w K mg base N ⟨nm, qual, params, body, scope, [(("__class__" : Str), cc)], c⟩ f A outer s H E) [] (startF N vs [some (.ref D)]) H { s with heap := h₁, toks := s.toks + (ps.zip us).length } := inv_startN S room.hd env long rel cells hns k₁
  have hbd2 : body = .Assign [.Name y py] (.Call (.Attribute (.Call (.Name "super" p0) [] [] p1) m apos) (e :: es) [] pos) pst :: st := hbd
  subst hbd2
  generalize hF : (⟨nm, qual, params, .Assign [.Name y py] (.Call (.Attribute (.Call (.Name "super" p0) [] [] p1) m apos) (e :: es) [] pos) pst :: st, scope, [(("__class__" : Str), cc)], c⟩ : NF) = F at *
  have W : _root_.PySem.wpAt (model P w) (ncx CX P w K mg base N F f A outer s H E).A (.func F.body (envF F f s.heap.objs.size)) (execs F.body (envF F f s.heap.objs.size))
      (SP (ncx CX P w K mg base N F f A outer s H E) [] { nx := fun _ H' => Q .non H', rt := Q }) (ncx CX P w K mg base N F f A outer s H E).xe { s with heap := h₁, toks := s.toks + (ps.zip us).length } := by
    rw [hbd]
    apply ks_wpAt_execs_cons
    apply ks_wpAt_Assign_Name (hs := hsw _)
    apply PySem.ks_wpAt_mono (eval_super (σ := startF N vs [some (.ref D)]) TT hline (hform _) I hN hσ hx G (room.deeper _) hb2 hp ha (he _) (hpl _) q)
    · intro v s1 hv
      obtain ⟨u, H1, I1, ru, q1⟩ := hv
      apply store_ok I1 S.nd hi (.inl hy) ru (hf := .inr hy)
      intro s2 I2
      exact _root_.PySem.wpAt_of_wpAny (hr.run [] s2 _ H1 _ I2 q1)
    · exact fun _ _ z => z
  subst hF
  refine PySem.ks_wpAt_mono W (fun fl s' hs => ?_) fun _ _ z => z
  · cases fl with
    | ret u =>
      obtain ⟨v, σ2, H2, J, rv, qv⟩ := hs
      exact ⟨v, H2, J.os, J.bare, J.base, J.hok, rv, qv⟩
    | next =>
      obtain ⟨σ2, H2, J, qv⟩ := hs
      exact ⟨.non, H2, J.os, J.bare, J.base, J.hok, rfl, qv⟩
    | brk =>
      obtain ⟨_, _, _, qv⟩ := hs
      exact qv.elim
    | cont =>
      obtain ⟨_, _, _, qv⟩ := hs
      exact qv.elim
/-- super().m() as a value -/
theorem eval_super0 {CX2 : CXT} {k : Nat} {fd : FuncData} {ps : List Str} {sp : Sp} {E : XK} {body : List Stmt} {p0 p1 apos pos : Pos} {s : Shared} {pins : List (Addr × Obj)} {σ : L2.St} {H : Hp} {x dx : Addr} {fs : List (Str × V)} {Q : VK}
    (T : SupTxt P K C D f g cc F m) (hline : (apos.endLine == pos.line) = true)
    (hform : methodCallForm (([] : List Expr).length + ([] : List Keyword).length) (backTo pos (starEach [] (envF F f s0.heap.objs.size))) (backToKw pos (keywordEach [] (envF F f s0.heap.objs.size))) = true)
    (I : Inv (ncx CX P w K mg base N F f A outer s0 H0 E0) pins σ H s) (hN : N[0]? = some ("self" : Str)) (hσ : σ[0]? = some (some (.ref x))) (hx : H x = some (.ins C dx fs))
    (G : FnOk P w K mg base CX2 k g fd ps sp) (hr : Room k (ncx CX P w K mg base N F f A outer s0 H0 E0).A) (hb : Binds K fd ps []) (hp : Passes CX2 (ncx CX P w K mg base N F f A outer s0 H0 E0) E)
    (h : sp [.ref x] H Q E) :
    _root_.PySem.wpAt (model P w) (ncx CX P w K mg base N F f A outer s0 H0 E0).A (.func body (envF F f s0.heap.objs.size))
      (eval (.Call (.Attribute (.Call (.Name "super" p0) [] [] p1) m apos) [] [] pos) (envF F f s0.heap.objs.size)) (EP (ncx CX P w K mg base N F f A outer s0 H0 E0) pins σ Q) (ncx CX P w K mg base N F f A outer s0 H0 E0).xe s := by
  refine at_super T hline hform I hN hσ hx fun q s' J => ?_
  have hq := (J.pin (q, PySem.W.methodObj (.ref g) (.ref x)) (List.mem_append_right _ (List.mem_append_right _ List.mem_cons_self))).1
  apply PySem.W.callWith_of (P := PySem.W.MethP K q g (.ref x)) rfl (PySem.W.keeps_M T.fg)
  apply evalArgs_nil3
  refine ⟨⟨hq, J.kIn⟩, ?_⟩
  refine wpAny_mono (run_bound (us := []) (vs := []) (pins := pins ++ [(q, PySem.W.methodObj (.ref g) (.ref x))]) G hr hb hp J hq .nil h) (fun v s2 hv => ?_) fun _ _ z => z
  obtain ⟨y, H2, J2, ry, qy⟩ := hv
  exact ⟨y, H2, J2.pins_of fun p hp => J2.pin p (List.mem_append_right _ (List.mem_append_left _ hp)), ry, qy⟩
/-- a def super().m(); .. keeps its promise -/
theorem okS_do {CX2 : CXT} {k : Nat} {fd2 : FuncData} {ps ps2 : List Str} {sp sp2 : Sp} {p0 p1 apos pos pst : Pos} {st : List Stmt}
    {oc : Value} {od : Option Addr} {doc pm : Value} {an : Option Addr} {ct : Value} {osl : Array (Option Value)}
    (T : SupTxt P K C D f g cc F m) (hf : K.lookup f = some ⟨oc, od, .func (ksFn F.name F.qual F.params F.body F.scope .none .none doc pm an (.ref F.c) ct cc), osl⟩)
    (S : NScope N ps ["__class__"] F.scope)
    (hbd : F.body = .Expr (.Call (.Attribute (.Call (.Name "super" p0) [] [] p1) m apos) [] [] pos) pst :: st)
    (ar : ∀ vs H Q E, sp vs H Q E → vs.length = ps.length) (hN : N[0]? = some ("self" : Str))
    (G : FnOk P w K mg base CX2 k g fd2 ps2 sp2) (hb2 : Binds K fd2 ps2 [])
    (hline : (apos.endLine == pos.line) = true)
    (hform : ∀ L, methodCallForm (([] : List Expr).length + ([] : List Keyword).length) (backTo pos (starEach [] (envF F f L))) (backToKw pos (keywordEach [] (envF F f L))) = true)
    (hsw : ∀ L, swapsWith (.Call (.Attribute (.Call (.Name "super" p0) [] [] p1) m apos) [] [] pos) none pst.line (envF F f L) = pure false)
    (bd : ∀ (A : Around) (outer : List Env) (s : Shared) (H : Hp) (vs : List V) (Q : VK) (E : XK), Room k (A.deeper (envF F f s.heap.objs.size)) → sp vs H Q E →
      ∃ (x dx : Addr) (fs : List (Str × V)) (E2 : XK) (tr : TS), (startF N vs [some (.ref D)])[0]? = some (some (.ref x)) ∧ H x = some (.ins C dx fs) ∧ Passes CX2 (ncx CX P w K mg base N F f A outer s H E) E2 ∧
        PSs (ncx CX P w K mg base N F f A outer s H E) st tr ∧
        sp2 [.ref x] H (fun _ H2 => tr { nx := fun _ H' => Q .non H', rt := Q } (startF N vs [some (.ref D)]) H2) E2) :
    FnOk P w K mg base CX (k + 1) f (ksFn F.name F.qual F.params F.body F.scope .none .none doc pm an (.ref F.c) ct cc) ps sp := by
  refine ⟨ar, fun A outer s H args us vs Q E room env bind rel prem => ?_⟩
  have kin : K.In s.heap := env.mod.kin.keeps fun b o z => (env.bs b o z).1
  have nl : s.heap.NoLimit := env.mod.nolimit.keeps fun b o z => (env.bs b o z).1
  have long := ar _ _ _ _ prem
  obtain ⟨x, dx, fs, E2, tr, hσ, hx, hp, hr, q⟩ := bd A outer s H vs Q E (room.deeper _) prem
  have cells := cells_at T env
  have TT := T
  obtain ⟨nm, qual, params, body, scope, cl, c⟩ := F
  have hcl : cl = [(("__class__" : Str), cc)] := T.cl
  subst hcl
  refine ks_codeAny_call_defAt (binds := ps.zip us) room.depth (kin _ _ hf) rfl nl (PySem.W.codeRec_of kin T.code) rfl bind S.nocell (fun z hz => S.par z.1 (List.of_mem_zip hz).1) (fun h₁ hns k₁ => ?_) S.co S.gen S.kind
  have I : Inv (ncx CX P w K mg base N ⟨nm, qual, params, body, scope, [(("__class__" : Str), cc)], c⟩ f A outer s H E) [] (startF N vs [some (.ref D)]) H { s with heap := h₁, toks := s.toks + (ps.zip us).length } := inv_startN S room.hd env long rel cells hns k₁
  have hbd2 : body = .Expr (.Call (.Attribute (.Call (.Name "super" p0) [] [] p1) m apos) [] [] pos) pst :: st := hbd
  subst hbd2
  generalize hF : (⟨nm, qual, params, .Expr (.Call (.Attribute (.Call (.Name "super" p0) [] [] p1) m apos) [] [] pos) pst :: st, scope, [(("__class__" : Str), cc)], c⟩ : NF) = F at *
  have W : _root_.PySem.wpAt (model P w) (ncx CX P w K mg base N F f A outer s H E).A (.func F.body (envF F f s.heap.objs.size)) (execs F.body (envF F f s.heap.objs.size))
      (SP (ncx CX P w K mg base N F f A outer s H E) [] { nx := fun _ H' => Q .non H', rt := Q }) (ncx CX P w K mg base N F f A outer s H E).xe { s with heap := h₁, toks := s.toks + (ps.zip us).length } := by
    rw [hbd]
    apply ks_wpAt_execs_cons
    apply ks_wpAt_Expr_any (hi := I.quiet) (hs := hsw _)
    apply PySem.ks_wpAt_mono (eval_super0 (σ := startF N vs [some (.ref D)]) TT hline (hform _) I hN hσ hx G (room.deeper _) hb2 hp q)
    · intro v s1 hv
      obtain ⟨u, H1, I1, ru, q1⟩ := hv
      exact _root_.PySem.wpAt_of_wpAny (hr.run [] s1 _ H1 _ I1 q1)
    · exact fun _ _ z => z
  subst hF
  refine PySem.ks_wpAt_mono W (fun fl s' hs => ?_) fun _ _ z => z
  · cases fl with
    | ret u =>
      obtain ⟨v, σ2, H2, J, rv, qv⟩ := hs
      exact ⟨v, H2, J.os, J.bare, J.base, J.hok, rv, qv⟩
    | next =>
      obtain ⟨σ2, H2, J, qv⟩ := hs
      exact ⟨.non, H2, J.os, J.bare, J.base, J.hok, rfl, qv⟩
    | brk =>
      obtain ⟨_, _, _, qv⟩ := hs
      exact qv.elim
    | cont =>
      obtain ⟨_, _, _, qv⟩ := hs
      exact qv.elim
end
end Gs
/-! Methods that raise. -/
namespace Gx
open PySem PySem.Spec PyProof.Rows L2 Gd
theorem pe_or {X : Cx} {e : Expr} {t u : TE} (a : PE X e t) (b : PE X e u) : PE X e (fun σ H Q => t σ H Q ∨ u σ H Q) := ⟨fun pins s σ H Q I h => h.elim (a.run pins s σ H Q I) (b.run pins s σ H Q I)⟩
/-- a method that may raise -/
structure MetX (P : Program) (w : World) (K : PySem.W.Frag) (mg : Str → Option Value) (base : Heap) (k : Nat) (C : Addr) (m : Str) (sp : Sp) : Prop where
  ex : ∃ (f : Addr) (fd : FuncData) (ps : List Str), Cls K C ∧ Meth K C m f ∧ FnOk P w K mg base (L2.CX P w) k f fd ps sp ∧ Binds K fd ps []
def tMethX (C : Addr) (m : Str) (sp : Sp) (E : L2.St → XK) (ta : TE) (t : TA) : TE := fun σ H Q => ta σ H fun x H1 => ∃ a dx fs, x = .ref a ∧ H1 a = some (.ins C dx fs) ∧ fs.lookup m = none ∧ t σ H1 fun vs H2 => sp (x :: vs) H2 Q (E σ)
section
variable {X : Cx} {k j : Nat} {C : Addr} {m : Str} {sp : Sp} {pos apos : Pos} {e o : Expr} {es : List Expr} {ta : TE} {t : TA}
theorem pe_mtX {W : WX} {pl : Sem Bool} (c : MetX X.prog X.w X.K X.mg X.base k C m sp) (hr : Room j X.A) (hk : k ≤ j) (tk : Takes X W) (he : PE X o ta) (ha : PA X (e :: es) t)
    (hst : starEach (e :: es) X.env = (false, eval e X.env) :: starEach es X.env := by rfl) (hpl : (backTo pos (starEach es X.env)).any (·.1) = false := by rfl)
    (ht : eval (.Call (.Attribute o m apos) (e :: es) [] pos) X.env = (do
      let ov ← eval o X.env
      standAt apos.atName
      let (f, first) ← holding [ov] (getMethod ov m pl)
      callWith pos f first (backTo pos (starEach (e :: es) X.env)) (backToKw pos (keywordEach [] X.env))) := by rfl) :
    PE X (.Call (.Attribute o m apos) (e :: es) [] pos) (tMethX C m sp (WE W) ta t) := by
  obtain ⟨f, fd, ps, hc, hm, F, b⟩ := c.ex
  refine ⟨fun pins s σ H Q I h => ?_⟩
  refine PySem.W.methodCall_KW (pl := pl) (thn (he.run pins s σ H _ I h) fun u s1 ⟨x, H1, I1, rx, a, dx, fs, ex, ea, l, q⟩ => ?_) ht
  subst ex
  obtain rfl : u = Value.ref a := rx
  refine getmeth_ok I1 ea hc hm l ?_
  refine PySem.W.callWith_K (first := [.ref a]) (h₀ := X.base) I.ok.mod.kin hm.kp (thn (ha.run pos pins s1 σ H1 _ I1 q) fun us s2 ⟨vs, H2, I2, r, q2⟩ => ⟨I2.kIn, ?_⟩) hst hpl
  exact run_fnS (us := .ref a :: us) (vs := .ref a :: vs) F (hr.mono hk) b (passAt tk σ) I2 (.cons rfl r) q2
/-- where it raises nothing -/
theorem pe_mtN {pl : Sem Bool} (c : MetX X.prog X.w X.K X.mg X.base k C m sp) (hr : Room j X.A) (hk : k ≤ j) (he : PE X o ta) (ha : PA X (e :: es) t)
    (hst : starEach (e :: es) X.env = (false, eval e X.env) :: starEach es X.env := by rfl) (hpl : (backTo pos (starEach es X.env)).any (·.1) = false := by rfl)
    (ht : eval (.Call (.Attribute o m apos) (e :: es) [] pos) X.env = (do
      let ov ← eval o X.env
      standAt apos.atName
      let (f, first) ← holding [ov] (getMethod ov m pl)
      callWith pos f first (backTo pos (starEach (e :: es) X.env)) (backToKw pos (keywordEach [] X.env))) := by rfl) :
    PE X (.Call (.Attribute o m apos) (e :: es) [] pos) (tMeth C m sp [] E0 ta t) := by
  obtain ⟨f, fd, ps, hc, hm, F, b⟩ := c.ex
  exact pe_meth (pl := pl) he hc hm F (hr.mono hk) b .nil passL ha hst hpl ht
end
end Gx
set_option maxHeartbeats 1000000
namespace K13
open PySem PySem.Spec PyProof.Rows L2 Gd
open C8 (clsBody Met pe_mt pe_mt0)
def topS (i : Nat) : Stmt := PySem.Challenge.pw_makeskept_k13_labels_by_the_rule.main.body.getD i (.Pass ⟨0, 0, 0, 0⟩)
abbrev s__wall : Stmt := topS 0
abbrev s_is_whole : Stmt := topS 7
abbrev s__law_cell_at : Stmt := topS 13
abbrev s__law_box : Stmt := topS 14
abbrev s__law_take : Stmt := topS 15
abbrev s__law_end : Stmt := topS 16
abbrev s__law_put : Stmt := topS 17
abbrev s__law_right : Stmt := topS 18
abbrev s__law_newest : Stmt := topS 19
abbrev s__law_step : Stmt := topS 20
abbrev s__law_refused : Stmt := topS 21
abbrev s__law_full : Stmt := topS 22
abbrev s_law : Stmt := topS 23
abbrev s_NoMark___init__ : Stmt := (clsBody (topS 3)).getD 0 (.Pass ⟨0, 0, 0, 0⟩)
abbrev s_TooMany___init__ : Stmt := (clsBody (topS 4)).getD 0 (.Pass ⟨0, 0, 0, 0⟩)
abbrev s_Alone___init__ : Stmt := (clsBody (topS 5)).getD 0 (.Pass ⟨0, 0, 0, 0⟩)
abbrev s_Order___init__ : Stmt := (clsBody (topS 11)).getD 0 (.Pass ⟨0, 0, 0, 0⟩)
abbrev s_Order_behind : Stmt := (clsBody (topS 11)).getD 1 (.Pass ⟨0, 0, 0, 0⟩)
abbrev s_Order_drop : Stmt := (clsBody (topS 11)).getD 2 (.Pass ⟨0, 0, 0, 0⟩)
abbrev s_Order_many : Stmt := (clsBody (topS 11)).getD 3 (.Pass ⟨0, 0, 0, 0⟩)
abbrev s_Order_marks : Stmt := (clsBody (topS 11)).getD 4 (.Pass ⟨0, 0, 0, 0⟩)
abbrev s_Order_ahead : Stmt := (clsBody (topS 11)).getD 5 (.Pass ⟨0, 0, 0, 0⟩)
abbrev s_Order_label : Stmt := (clsBody (topS 11)).getD 6 (.Pass ⟨0, 0, 0, 0⟩)
abbrev s_Order_anew : Stmt := (clsBody (topS 11)).getD 7 (.Pass ⟨0, 0, 0, 0⟩)
abbrev s_Order_copied : Stmt := (clsBody (topS 11)).getD 8 (.Pass ⟨0, 0, 0, 0⟩)
abbrev s_Order__label_at : Stmt := (clsBody (topS 11)).getD 9 (.Pass ⟨0, 0, 0, 0⟩)
abbrev s_Order__label_anew : Stmt := (clsBody (topS 11)).getD 10 (.Pass ⟨0, 0, 0, 0⟩)
abbrev s_Order__need_mark : Stmt := (clsBody (topS 11)).getD 11 (.Pass ⟨0, 0, 0, 0⟩)
theorem sc_Order___init__ : FnScope ["self"] ["self"] (defScope s_Order___init__) := ⟨rfl, rfl, rfl, by decide +kernel, rfl, by decide +kernel, by decide +kernel⟩
theorem sc_Order_behind : FnScope ["self", "mark", "at", "number"] ["self", "mark"] (defScope s_Order_behind) := ⟨rfl, rfl, rfl, by decide +kernel, rfl, by decide +kernel, by decide +kernel⟩
theorem sc_Order_drop : FnScope ["self", "mark"] ["self", "mark"] (defScope s_Order_drop) := ⟨rfl, rfl, rfl, by decide +kernel, rfl, by decide +kernel, by decide +kernel⟩
theorem sc_Order_many : FnScope ["self"] ["self"] (defScope s_Order_many) := ⟨rfl, rfl, rfl, by decide +kernel, rfl, by decide +kernel, by decide +kernel⟩
theorem sc_Order_marks : FnScope ["self"] ["self"] (defScope s_Order_marks) := ⟨rfl, rfl, rfl, by decide +kernel, rfl, by decide +kernel, by decide +kernel⟩
theorem sc_Order_ahead : FnScope ["self", "one", "other"] ["self", "one", "other"] (defScope s_Order_ahead) := ⟨rfl, rfl, rfl, by decide +kernel, rfl, by decide +kernel, by decide +kernel⟩
theorem sc_Order_label : FnScope ["self", "mark"] ["self", "mark"] (defScope s_Order_label) := ⟨rfl, rfl, rfl, by decide +kernel, rfl, by decide +kernel, by decide +kernel⟩
theorem sc_Order_anew : FnScope ["self"] ["self"] (defScope s_Order_anew) := ⟨rfl, rfl, rfl, by decide +kernel, rfl, by decide +kernel, by decide +kernel⟩
theorem sc_Order_copied : FnScope ["self", "other"] ["self"] (defScope s_Order_copied) := ⟨rfl, rfl, rfl, by decide +kernel, rfl, by decide +kernel, by decide +kernel⟩
theorem sc_Order__label_at : FnScope ["self", "at"] ["self", "at"] (defScope s_Order__label_at) := ⟨rfl, rfl, rfl, by decide +kernel, rfl, by decide +kernel, by decide +kernel⟩
theorem sc_Order__label_anew : FnScope ["self", "step", "at", "mark"] ["self"] (defScope s_Order__label_anew) := ⟨rfl, rfl, rfl, by decide +kernel, rfl, by decide +kernel, by decide +kernel⟩
theorem sc_Order__need_mark : FnScope ["self", "mark"] ["self", "mark"] (defScope s_Order__need_mark) := ⟨rfl, rfl, rfl, by decide +kernel, rfl, by decide +kernel, by decide +kernel⟩
theorem sc__wall : FnScope ["k"] ["k"] (defScope s__wall) := ⟨rfl, rfl, rfl, by decide +kernel, rfl, by decide +kernel, by decide +kernel⟩
theorem sc_is_whole : FnScope ["thing", "low", "high"] ["thing", "low", "high"] (defScope s_is_whole) := ⟨rfl, rfl, rfl, by decide +kernel, rfl, by decide +kernel, by decide +kernel⟩
theorem sc__law_cell_at : FnScope ["_law_script", "_law_k"] ["_law_script", "_law_k"] (defScope s__law_cell_at) := ⟨rfl, rfl, rfl, by decide +kernel, rfl, by decide +kernel, by decide +kernel⟩
theorem sc__law_box : FnScope ["_law_cell"] ["_law_cell"] (defScope s__law_box) := ⟨rfl, rfl, rfl, by decide +kernel, rfl, by decide +kernel, by decide +kernel⟩
theorem sc__law_take : FnScope ["_law_box_here", "_law_many", "_law_digit", "_law_number"] ["_law_box_here", "_law_many"] (defScope s__law_take) := ⟨rfl, rfl, rfl, by decide +kernel, rfl, by decide +kernel, by decide +kernel⟩
theorem sc__law_end : FnScope ["_law_row", "_law_at"] ["_law_row", "_law_at"] (defScope s__law_end) := ⟨rfl, rfl, rfl, by decide +kernel, rfl, by decide +kernel, by decide +kernel⟩
theorem sc__law_put : FnScope ["_law_model", "_law_at", "_law_row", "_law_step_here", "_law_label", "_law_k", "_law_mark"] ["_law_model", "_law_at"] (defScope s__law_put) := ⟨rfl, rfl, rfl, by decide +kernel, rfl, by decide +kernel, by decide +kernel⟩
theorem sc__law_right : FnScope ["_law_order", "_law_model", "_law_found", "_law_mark"] ["_law_order", "_law_model"] (defScope s__law_right) := ⟨rfl, rfl, rfl, by decide +kernel, rfl, by decide +kernel, by decide +kernel⟩
theorem sc__law_newest : FnScope ["_law_row", "_law_newest_here", "_law_mark", "_law_label", "_law_at"] ["_law_row"] (defScope s__law_newest) := ⟨rfl, rfl, rfl, by decide +kernel, rfl, by decide +kernel, by decide +kernel⟩
theorem sc__law_step : FnScope ["_law_box_here", "_law_order", "_law_model", "_law_drops", "_law_way", "_law_many", "_law_at", "_law_turn", "_law_row", "_law_spot"] ["_law_box_here", "_law_order", "_law_model"] (defScope s__law_step) := ⟨rfl, rfl, rfl, by decide +kernel, rfl, by decide +kernel, by decide +kernel⟩
theorem sc__law_refused : FnScope ["_law_order", "_law_model", "_law_mark", "_law_label", "_law_found", "e"] ["_law_order", "_law_model"] (defScope s__law_refused) := ⟨rfl, rfl, rfl, by decide +kernel, rfl, by decide +kernel, by decide +kernel⟩
theorem sc__law_full : FnScope ["_law_order", "_law_model", "_law_way", "_law_many", "_law_spot", "_law_lap"] ["_law_order", "_law_model", "_law_way"] (defScope s__law_full) := ⟨rfl, rfl, rfl, by decide +kernel, rfl, by decide +kernel, by decide +kernel⟩
theorem sc_law : FnScope ["_law_script", "_law_orders", "_law_models", "_law_k", "_law_box_here", "_law_at", "_law_copies", "_law_way"] ["_law_script"] (defScope s_law) := ⟨rfl, rfl, rfl, by decide +kernel, rfl, by decide +kernel, by decide +kernel⟩
structure Txt (K : PySem.W.Frag) (mg : Str → Option Value) : Prop where
  b_len : mg "len" = none
  b_max : mg "max" = none
  b_min : mg "min" = none
  b_range : mg "range" = none
  b_repr : mg "repr" = none
  b_isinstance : mg "isinstance" = none
  b_enumerate : mg "enumerate" = none
  t_int : mg "int" = none
  t_bool : mg "bool" = none
  t_list : mg "list" = none
  t_dict : mg "dict" = none
  g_MOST_MARKS : GInt mg "MOST_MARKS" 200
  g_LABELS : GInt mg "LABELS" 1024
/-- the class of orders -/
structure OrdC (K : PySem.W.Frag) (C : Addr) : Prop where
  cl : Cls K C
  n_marks : NoAttr K C "_marks"
  n_labels : NoAttr K C "_labels"
  n_given : NoAttr K C "_given"
  n_times : NoAttr K C "_times"
def fields : List Str := ["_marks", "_labels", "_given", "_times"]
def num (j : Nat) : V := .int (j : Nat)
theorem putF_len {f : Str} {v x : V} : ∀ {fs : List (Str × V)}, fs.lookup f = some x → (putF f v fs).length = fs.length
  | [], h => by cases h
  | (g, y) :: r, h => by
    unfold putF
    by_cases e : g = f
    · rw [if_pos e]
      rfl
    · rw [if_neg e]
      have e2 : (f == g) = false := by simpa using fun z => e z.symm
      rw [List.lookup_cons, e2] at h
      rw [List.length_cons, List.length_cons, putF_len h]
/-! lists of marks and their labels -/
def inl {α : Type} (l : List α) (k : Nat) (x : α) : List α := l.take k ++ [x] ++ l.drop k
theorem inl_at {α : Type} {l : List α} {k : Nat} {x : α} (hk : k ≤ l.length) (j : Nat) : (inl l k x)[j]? = if j < k then l[j]? else if j = k then some x else l[j - 1]? := by
  unfold inl
  have h1 : (l.take k).length = k := by rw [List.length_take]; omega
  by_cases e : j < k
  · rw [if_pos e, List.append_assoc, List.getElem?_append_left (by omega), List.getElem?_take, if_pos e]
  · rw [if_neg e]
    by_cases e2 : j = k
    · rw [if_pos e2, List.append_assoc, List.getElem?_append_right (by omega), h1, e2, Nat.sub_self]
      rfl
    · rw [if_neg e2, List.getElem?_append_right (by rw [List.length_append, h1]; show k + 1 ≤ j; omega), List.length_append, h1, List.getElem?_drop]
      congr 1
      show k + (j - (k + 1)) = j - 1
      omega
theorem inl_len {α : Type} {l : List α} {k : Nat} {x : α} (hk : k ≤ l.length) : (inl l k x).length = l.length + 1 := by
  unfold inl
  rw [List.length_append, List.length_append, List.length_take, List.length_drop]
  show min k l.length + 1 + _ = _
  omega
theorem inl_map {α β : Type} (f : α → β) (l : List α) (k : Nat) (x : α) : (inl l k x).map f = inl (l.map f) k (f x) := by
  unfold inl
  rw [List.map_append, List.map_append, List.map_take, List.map_drop]
  rfl
def labAt (ls : List Nat) (i : Nat) : Nat := ls.getD i 1024
theorem labAt_in {ls : List Nat} {i l : Nat} (h : ls[i]? = some l) : labAt ls i = l := by
  unfold labAt
  rw [List.getD_eq_getElem?_getD, h]
  rfl
theorem labAt_end {ls : List Nat} {i : Nat} (h : ls.length ≤ i) : labAt ls i = 1024 := by
  unfold labAt
  rw [List.getD_eq_getElem?_getD, List.getElem?_eq_none h]
  rfl
def anewL (n : Nat) : List Nat := (List.range n).map fun k => k * (1024 / n)
theorem anew_len (n : Nat) : (anewL n).length = n := by
  unfold anewL
  rw [List.length_map, List.length_range]
theorem anew_at {n i : Nat} (h : i < n) : (anewL n)[i]? = some (i * (1024 / n)) := by
  unfold anewL
  rw [List.getElem?_map, List.getElem?_range h]
  rfl
/-- an order as it must be -/
structure Ok (ms ls : List Nat) (gv : Nat) : Prop where
  len : ls.length = ms.length
  pos : 0 < ms.length
  few : ms.length ≤ 200
  nd : ∀ (i j m : Nat), ms[i]? = some m → ms[j]? = some m → i = j
  lt : ∀ (i m : Nat), ms[i]? = some m → m < gv
  inc : ∀ (i j a b : Nat), i < j → ls[i]? = some a → ls[j]? = some b → a < b
  top : ∀ (i a : Nat), ls[i]? = some a → a < 1024
def gap (ls : List Nat) (i : Nat) : Prop := labAt ls i + 2 ≤ labAt ls (i + 1)
instance (ls : List Nat) (i : Nat) : Decidable (gap ls i) := inferInstanceAs (Decidable (_ ≤ _))
/-- the labels that a mark finds that is put behind the i-th -/
def readyL (ls : List Nat) (i : Nat) : List Nat := if gap ls i then ls else anewL ls.length
theorem ready_len (ls : List Nat) (i : Nat) : (readyL ls i).length = ls.length := by
  unfold readyL
  split
  · rfl
  · exact anew_len _
def midL (ls : List Nat) (i : Nat) : Nat := (labAt (readyL ls i) i + labAt (readyL ls i) (i + 1)) / 2
theorem step_pos {n : Nat} (h : n ≤ 200) (h0 : 0 < n) : 5 ≤ 1024 / n := by
  rw [Nat.le_div_iff_mul_le h0]
  omega
theorem Ok.anew {ms ls : List Nat} {gv : Nat} (o : Ok ms ls gv) : Ok ms (anewL ms.length) gv := by
  have hs := step_pos o.few o.pos
  have ht : ms.length * (1024 / ms.length) ≤ 1024 := Nat.mul_div_le 1024 ms.length
  refine ⟨anew_len _, o.pos, o.few, o.nd, o.lt, fun i j a b hij ha hb => ?_, fun i a ha => ?_⟩
  · have hj : j < ms.length := by
      by_cases z : j < ms.length
      · exact z
      · rw [List.getElem?_eq_none (by rw [anew_len]; omega)] at hb
        cases hb
    rw [anew_at (by omega)] at ha
    rw [anew_at hj] at hb
    have ea := Option.some.inj ha
    have eb := Option.some.inj hb
    rw [← ea, ← eb]
    exact Nat.mul_lt_mul_of_pos_right hij (by omega)
  · have hi : i < ms.length := by
      by_cases z : i < ms.length
      · exact z
      · rw [List.getElem?_eq_none (by rw [anew_len]; omega)] at ha
        cases ha
    rw [anew_at hi] at ha
    have ea := Option.some.inj ha
    rw [← ea]
    refine Nat.lt_of_lt_of_le (Nat.mul_lt_mul_of_pos_right hi (by omega)) ht
theorem Ok.gap_ready {ms ls : List Nat} {gv i : Nat} (o : Ok ms ls gv) (hi : i < ms.length) : gap (readyL ls i) i := by
  unfold readyL
  split
  · assumption
  · unfold gap
    have hs := step_pos o.few o.pos
    rw [o.len]
    by_cases e : i + 1 < ms.length
    · rw [labAt_in (anew_at hi), labAt_in (anew_at e), Nat.succ_mul]
      omega
    · have e2 : i + 1 = ms.length := by omega
      rw [labAt_in (anew_at hi), labAt_end (by rw [anew_len]; omega)]
      have ht : ms.length * (1024 / ms.length) ≤ 1024 := Nat.mul_div_le 1024 ms.length
      rw [← e2, Nat.succ_mul] at ht
      rw [← e2]
      rw [← e2] at hs
      omega
theorem Ok.ready {ms ls : List Nat} {gv i : Nat} (o : Ok ms ls gv) : Ok ms (readyL ls i) gv := by
  unfold readyL
  split
  · exact o
  · rw [o.len]
    exact o.anew
theorem Ok.put {ms ls : List Nat} {gv i : Nat} (o : Ok ms ls gv) (hi : i < ms.length) (few : ms.length < 200) : Ok (inl ms (i + 1) gv) (inl (readyL ls i) (i + 1) (midL ls i)) (gv + 1) := by
  have r := o.ready (i := i)
  have g := o.gap_ready hi
  have hl : (readyL ls i).length = ms.length := r.len
  unfold gap at g
  have hm : labAt (readyL ls i) i < midL ls i ∧ midL ls i < labAt (readyL ls i) (i + 1) := by
    unfold midL
    omega
  have hlo : ∀ (j a : Nat), j < i + 1 → (readyL ls i)[j]? = some a → a < midL ls i := fun j a hj ha => by
    by_cases e : j = i
    · rw [e] at ha
      rw [labAt_in ha] at hm
      exact hm.1
    · obtain ⟨b, hb⟩ : ∃ b, (readyL ls i)[i]? = some b := ⟨_, List.getElem?_eq_getElem (by omega)⟩
      have := r.inc j i a b (by omega) ha hb
      rw [labAt_in hb] at hm
      omega
  have hhi : ∀ (j a : Nat), i + 1 ≤ j → (readyL ls i)[j]? = some a → midL ls i < a := fun j a hj ha => by
    by_cases e : j = i + 1
    · rw [e] at ha
      rw [labAt_in ha] at hm
      exact hm.2
    · obtain ⟨b, hb⟩ : ∃ b, (readyL ls i)[i + 1]? = some b := ⟨_, List.getElem?_eq_getElem (by
        by_cases z : j < (readyL ls i).length
        · omega
        · rw [List.getElem?_eq_none (by omega)] at ha
          cases ha)⟩
      have := r.inc (i + 1) j b a (by omega) hb ha
      rw [labAt_in hb] at hm
      omega
  refine ⟨by rw [inl_len (by omega), inl_len (by omega), hl], by rw [inl_len (by omega)]; omega, by rw [inl_len (by omega)]; omega, fun j k m h1 h2 => ?_, fun j m h => ?_, fun j k a b hjk ha hb => ?_, fun j a ha => ?_⟩
  · rw [inl_at (by omega)] at h1 h2
    by_cases e1 : j < i + 1
    · rw [if_pos e1] at h1
      have l1 := o.lt _ _ h1
      by_cases e2 : k < i + 1
      · rw [if_pos e2] at h2
        exact o.nd _ _ _ h1 h2
      · rw [if_neg e2] at h2
        by_cases e3 : k = i + 1
        · rw [if_pos e3] at h2
          have := Option.some.inj h2
          omega
        · rw [if_neg e3] at h2
          have := o.nd _ _ _ h1 h2
          omega
    · rw [if_neg e1] at h1
      by_cases e4 : j = i + 1
      · rw [if_pos e4] at h1
        have e5 := Option.some.inj h1
        by_cases e2 : k < i + 1
        · rw [if_pos e2] at h2
          have := o.lt _ _ h2
          omega
        · rw [if_neg e2] at h2
          by_cases e3 : k = i + 1
          · omega
          · rw [if_neg e3] at h2
            have := o.lt _ _ h2
            omega
      · rw [if_neg e4] at h1
        have l1 := o.lt _ _ h1
        by_cases e2 : k < i + 1
        · rw [if_pos e2] at h2
          have := o.nd _ _ _ h1 h2
          omega
        · rw [if_neg e2] at h2
          by_cases e3 : k = i + 1
          · rw [if_pos e3] at h2
            have := Option.some.inj h2
            omega
          · rw [if_neg e3] at h2
            have := o.nd _ _ _ h1 h2
            omega
  · rw [inl_at (by omega)] at h
    split at h
    · have := o.lt _ _ h
      omega
    · split at h
      · have := Option.some.inj h
        omega
      · have := o.lt _ _ h
        omega
  · rw [inl_at (by omega)] at ha hb
    by_cases e1 : j < i + 1
    · rw [if_pos e1] at ha
      by_cases e2 : k < i + 1
      · rw [if_pos e2] at hb
        exact r.inc _ _ _ _ hjk ha hb
      · rw [if_neg e2] at hb
        by_cases e3 : k = i + 1
        · rw [if_pos e3] at hb
          have := Option.some.inj hb
          have := hlo _ _ e1 ha
          omega
        · rw [if_neg e3] at hb
          exact r.inc _ _ _ _ (by omega) ha hb
    · rw [if_neg e1] at ha
      rw [if_neg (by omega), if_neg (by omega)] at hb
      by_cases e4 : j = i + 1
      · rw [if_pos e4] at ha
        have := Option.some.inj ha
        have := hhi _ _ (by omega) hb
        omega
      · rw [if_neg e4] at ha
        exact r.inc _ _ _ _ (by omega) ha hb
  · rw [inl_at (by omega)] at ha
    have ht : midL ls i < 1024 := by
      by_cases z : i + 1 < (readyL ls i).length
      · have := r.top (i + 1) _ (List.getElem?_eq_getElem z)
        have e2 := labAt_in (List.getElem?_eq_getElem z)
        omega
      · rw [labAt_end (by omega : (readyL ls i).length ≤ i + 1)] at hm
        exact hm.2
    split at ha
    · exact r.top _ _ ha
    · split at ha
      · have := Option.some.inj ha
        omega
      · exact r.top _ _ ha
theorem er_at {α : Type} (l : List α) (k j : Nat) : (l.eraseIdx k)[j]? = if j < k then l[j]? else l[j + 1]? := by
  rw [List.getElem?_eraseIdx]
theorem er_len {α : Type} {l : List α} {k : Nat} (h : k < l.length) : (l.eraseIdx k).length = l.length - 1 := List.length_eraseIdx_of_lt h
theorem Ok.drop {ms ls : List Nat} {gv i : Nat} (o : Ok ms ls gv) (hi : i < ms.length) (h2 : 1 < ms.length) : Ok (ms.eraseIdx i) (ls.eraseIdx i) gv := by
  have hl := o.len
  refine ⟨by rw [er_len hi, er_len (by omega), hl], by rw [er_len hi]; omega, by rw [er_len hi]; have := o.few; omega, fun j k m h1 h2 => ?_, fun j m h => ?_, fun j k a b hjk ha hb => ?_, fun j a ha => ?_⟩
  · rw [er_at] at h1 h2
    split at h1
    · split at h2
      · exact o.nd _ _ _ h1 h2
      · have := o.nd _ _ _ h1 h2
        omega
    · split at h2
      · have := o.nd _ _ _ h1 h2
        omega
      · have := o.nd _ _ _ h1 h2
        omega
  · rw [er_at] at h
    split at h
    · exact o.lt _ _ h
    · exact o.lt _ _ h
  · rw [er_at] at ha hb
    split at ha
    · split at hb
      · exact o.inc _ _ _ _ hjk ha hb
      · exact o.inc _ _ _ _ (by omega) ha hb
    · rw [if_neg (by omega)] at hb
      exact o.inc _ _ _ _ (by omega) ha hb
  · rw [er_at] at ha
    split at ha
    · exact o.top _ _ ha
    · exact o.top _ _ ha
end K13
set_option maxHeartbeats 1000000
namespace K13
open PySem PySem.Spec PyProof.Rows L2 Gd
open C8 (clsBody Met pe_mt pe_mt0)
/-- the dict of labels -/
structure DictL (kvs : List (Key × V)) (ms ls : List Nat) (gv : Nat) : Prop where
  len : kvs.length ≤ gv
  few : gv ≤ 1000
  at_ : ∀ (i m l : Nat), ms[i]? = some m → ls[i]? = some l → valV kvs (Sum.inl (m : Int)) = some (num l)
  no : ∀ k : Nat, (∀ i : Nat, ms[i]? ≠ some k) → valV kvs (Sum.inl (k : Int)) = none
/-- an order at o, N all that is its own -/
structure OrdA (N : Addr → Prop) (H : Hp) (o C : Addr) (ms ls : List Nat) (gv ts : Nat) : Prop where
  ex : ∃ (dx m d : Addr) (fs : List (Str × V)) (kvs : List (Key × V)), H o = some (.ins C dx fs) ∧ fs.lookup ("_marks" : Str) = some (.ref m) ∧ fs.lookup ("_labels" : Str) = some (.ref d) ∧ fs.lookup ("_given" : Str) = some (num gv) ∧ fs.lookup ("_times" : Str) = some (num ts) ∧
    (∀ f, f ∉ fields → fs.lookup f = none) ∧ H m = some (.lst (ms.map num)) ∧ H d = some (.dK kvs) ∧ DictL kvs ms ls gv ∧ fs.length ≤ 100 ∧ N o ∧ N m ∧ N d
  ok : Ok ms ls gv
theorem OrdA.kp {N : Addr → Prop} {H H' : Hp} {o C : Addr} {ms ls : List Nat} {gv ts : Nat} (r : OrdA N H o C ms ls gv ts) (k : ∀ c u, N c → H c = some u → H' c = some u) : OrdA N H' o C ms ls gv ts := by
  obtain ⟨dx, m, d, fs, kvs, e1, l1, l2, l3, l4, nl, e2, e3, dc, lf, No, Nm, Nd⟩ := r.ex
  exact ⟨⟨dx, m, d, fs, kvs, k _ _ No e1, l1, l2, l3, l4, nl, k _ _ Nm e2, k _ _ Nd e3, dc, lf, No, Nm, Nd⟩, r.ok⟩
theorem OrdA.mono {N N' : Addr → Prop} {H : Hp} {o C : Addr} {ms ls : List Nat} {gv ts : Nat} (r : OrdA N H o C ms ls gv ts) (k : ∀ c, N c → N' c) : OrdA N' H o C ms ls gv ts := by
  obtain ⟨dx, m, d, fs, kvs, e1, l1, l2, l3, l4, nl, e2, e3, dc, lf, No, Nm, Nd⟩ := r.ex
  exact ⟨⟨dx, m, d, fs, kvs, e1, l1, l2, l3, l4, nl, e2, e3, dc, lf, k _ No, k _ Nm, k _ Nd⟩, r.ok⟩
theorem OrdA.cut {N : Addr → Prop} {H : Hp} {o C : Addr} {ms ls : List Nat} {gv ts : Nat} (r : OrdA N H o C ms ls gv ts) : OrdA (fun c => N c ∧ H c ≠ none) H o C ms ls gv ts := by
  obtain ⟨dx, m, d, fs, kvs, e1, l1, l2, l3, l4, nl, e2, e3, dc, lf, No, Nm, Nd⟩ := r.ex
  exact ⟨⟨dx, m, d, fs, kvs, e1, l1, l2, l3, l4, nl, e2, e3, dc, lf, ⟨No, fun z => by rw [e1] at z; cases z⟩, ⟨Nm, fun z => by rw [e2] at z; cases z⟩, ⟨Nd, fun z => by rw [e3] at z; cases z⟩⟩, r.ok⟩
theorem OrdA.ins {N : Addr → Prop} {H : Hp} {o C : Addr} {ms ls : List Nat} {gv ts : Nat} (r : OrdA N H o C ms ls gv ts) : ∃ dx fs, H o = some (.ins C dx fs) ∧ (∀ f, f ∉ fields → fs.lookup f = none) := by
  obtain ⟨dx, m, d, fs, kvs, e1, l1, l2, l3, l4, nl, e2, e3, dc, lf, No, Nm, Nd⟩ := r.ex
  exact ⟨dx, fs, e1, nl⟩
section
variable {P : Program} {w : World} {K : PySem.W.Frag} {mg : Str → Option Value} {base : Heap} {C : Addr}
structure MAt (K : PySem.W.Frag) (C : Addr) (m qual : Str) (st : Stmt) (ps : List Str) : Prop where
  ex : ∃ (f : Addr) (fd : FuncData), Fun K m qual st f fd ∧ Meth K C m f ∧ Binds K fd ps []
theorem MAt.met {m qual : Str} {st : Stmt} {N ps : List Str} {k : Nat} {sp : Sp} (M : MAt K C m qual st ps) (cl : Cls K C) (S : FnScope N ps (defScope st))
    (ar : ∀ vs H Q E, sp vs H Q E → vs.length = ps.length)
    (bd : ∀ (f : Addr) (cdv : Value) (A : Around) (outer : List Env) (s : Shared) (H : Hp) (vs : List V) (Q : VK) (E : XK), Room k (A.deeper (envOfC qual (defScope st) s.heap.objs.size f cdv)) → sp vs H Q E →
      ∃ t, PSs (cxOf CX0 P w K mg base N qual (defScope st) f cdv A outer s H E).nox (defBody st) t ∧ t { nx := fun _ H' => Q .non H', rt := Q } (start N vs) H) : Met P w K mg base (k + 1) C m sp [] := by
  obtain ⟨f, fd, F, me, b⟩ := M.ex
  exact ⟨f, fd, ps, [], cl, me, F.ok S ar (bd f), b, .nil⟩
def spWhI : Sp := fun vs H Q _ => ∃ n lo hi : Int, vs = [.int n, .int lo, .int hi] ∧ lo ≤ n ∧ n ≤ hi ∧ Q (.bl true) H
theorem ok_whI (T : Txt K mg) (D : DefAt K mg "is_whole" s_is_whole ["thing", "low", "high"]) : C8.Cal P w K mg base 1 "is_whole" spWhI [] := by
  obtain ⟨f, fd, F, m, b⟩ := D.ex
  refine ⟨f, fd, _, [], F.ok sc_is_whole (fun vs H Q E h => ?_) (fun cdv A outer s H vs Q E hr h => ?_), m, F.kp, b, .nil⟩
  · obtain ⟨n, lo, hi, rfl, _⟩ := h
    rfl
  · obtain ⟨n, lo, hi, rfl, h1, h2, q⟩ := h
    refine ⟨_, (pss_one (ps_ret (pe_and (pe_callB call_isi (by rfl) T.b_isinstance boot_isinstance_ (pa_cons (pv 0) (pa_cons (pe_bltn (v := .ty "int") (by rfl) T.t_int boot_int_ rfl) pa_nil))) (pe_and (pe_not (pe_callB call_isi (by rfl) T.b_isinstance boot_isinstance_ (pa_cons (pv 0) (pa_cons (pe_bltn (v := .ty "bool") (by rfl) T.t_bool boot_bool_ rfl) pa_nil)))) (pe_one (pe_chain op_le op_le (pv 1) (pv 0) (pv 2))))))), ?_⟩
    have ty := tyD (K := K) (H := H) (D1.dp (Dp.int n))
    refine ⟨_, rfl, .int n, .ty "int", _, .type "int", _, rfl, .ty _, ty, kInt (.int n), _, rfl, ?_⟩
    refine iteT ?_
    refine ⟨_, rfl, _, .ty "bool", _, .type "bool", _, rfl, .ty _, ty, kBool _, _, rfl, _, rfl, ?_⟩
    refine iteT ?_
    refine ⟨_, rfl, _, rfl, _, _, rfl, rfl, _, rfl, ?_⟩
    rw [decide_eq_true h1]
    refine iteT ⟨_, rfl, _, _, rfl, rfl, ?_⟩
    show Q (.bl (decide (n ≤ hi))) H
    rw [decide_eq_true h2]
    exact q
def spMany (C : Addr) : Sp := fun vs H Q _ => ∃ (N : Addr → Prop) (o : Addr) (ms ls : List Nat) (gv ts : Nat), vs = [.ref o] ∧ OrdA N H o C ms ls gv ts ∧ Q (num ms.length) H
theorem ok_many (T : Txt K mg) (OC : OrdC K C) (M : MAt K C "many" "Order.many" s_Order_many ["self"]) : Met P w K mg base 1 C "many" (spMany C) [] := by
  refine M.met OC.cl sc_Order_many (fun vs H Q E h => ?_) (fun f cdv A outer s H vs Q E hr h => ?_)
  · obtain ⟨N, o, ms, ls, gv, ts, rfl, _⟩ := h
    rfl
  · obtain ⟨N, o, ms, ls, gv, ts, rfl, r, q⟩ := h
    obtain ⟨dx, m, d, fs, kvs, e1, l1, l2, l3, l4, nl, e2, e3, dc, lf, No, Nm, Nd⟩ := r.ex
    refine ⟨_, (pss_one (ps_ret (pe_callB call_len (by rfl) T.b_len boot_len_ (pa_cons (pe_fld (pv 0) rfl) pa_nil)))), ?_⟩
    refine ⟨_, rfl, o, C, dx, fs, .ref m, rfl, e1, OC.cl, OC.n_marks, l1, .ref m, (ms.map num).length, rfl, .inl ⟨_, SqL.of e2, rfl⟩, ?_⟩
    rw [List.length_map]
    exact q
def spNeed (C : Addr) : Sp := fun vs H Q _ => ∃ (N : Addr → Prop) (o : Addr) (ms ls : List Nat) (gv ts i k : Nat), vs = [.ref o, num k] ∧ OrdA N H o C ms ls gv ts ∧ ms[i]? = some k ∧ Q .non H
theorem lab_of {ms ls : List Nat} {gv i k : Nat} (o : Ok ms ls gv) (h : ms[i]? = some k) : ∃ l, ls[i]? = some l := by
  have hi : i < ms.length := by
    by_cases z : i < ms.length
    · exact z
    · rw [List.getElem?_eq_none (by omega)] at h
      cases h
  exact ⟨_, List.getElem?_eq_getElem (by rw [o.len]; exact hi)⟩
theorem ok_need (T : Txt K mg) (OC : OrdC K C) (c_is_whole : C8.Cal P w K mg base 1 "is_whole" spWhI []) (M : MAt K C "_need_mark" "Order._need_mark" s_Order__need_mark ["self", "mark"]) : Met P w K mg base 2 C "_need_mark" (spNeed C) [] := by
  refine M.met OC.cl sc_Order__need_mark (fun vs H Q E h => ?_) (fun f cdv A outer s H vs Q E hr h => ?_)
  · obtain ⟨N, o, ms, ls, gv, ts, i, k, rfl, _⟩ := h
    rfl
  · obtain ⟨N, o, ms, ls, gv, ts, i, k, rfl, r, hk, q⟩ := h
    obtain ⟨dx, m, d, fs, kvs, e1, l1, l2, l3, l4, nl, e2, e3, dc, lf, No, Nm, Nd⟩ := r.ex
    obtain ⟨l, hl⟩ := lab_of r.ok hk
    have hkg := r.ok.lt _ _ hk
    refine ⟨_, (pss_one (ps_if (PW.pt (pw_or (pt_not (pt_val (C8.pe_c c_is_whole hr (by decide) (by rfl) (pa_cons (pv 1) (pa_cons pe_int (pa_cons (pe_op op_sub (pe_fld (pv 0) rfl) pe_int) pa_nil)))))) (pw_or1 (pt_cmp (pc_dnotin (hu_of hr) (pv 1) (pe_fld (pv 0) rfl))))))
          (pss_one ps_never) pss_nil)), ?_⟩
    refine ⟨_, rfl, _, rfl, o, C, dx, fs, num gv, rfl, e1, OC.cl, OC.n_given, l3, _, _, rfl, rfl, ?_⟩
    refine ⟨(k : Nat), 0, (gv : Int) - 1, rfl, by omega, by omega, _, rfl, iteF ?_⟩
    refine ⟨_, rfl, _, rfl, o, C, dx, fs, .ref d, rfl, e1, OC.cl, OC.n_labels, l2, d, _, rfl, DGet.k (k := Sum.inl (k : Int)) e3, _, rfl, ?_⟩
    rw [dc.at_ _ _ _ hk hl]
    exact iteF q
def spLabel (C : Addr) : Sp := fun vs H Q _ => ∃ (N : Addr → Prop) (o : Addr) (ms ls : List Nat) (gv ts i k l : Nat), vs = [.ref o, num k] ∧ OrdA N H o C ms ls gv ts ∧ ms[i]? = some k ∧ ls[i]? = some l ∧ Q (num l) H
theorem ok_label (T : Txt K mg) (OC : OrdC K C) (m__need_mark : Met P w K mg base 2 C "_need_mark" (spNeed C) []) (M : MAt K C "label" "Order.label" s_Order_label ["self", "mark"]) : Met P w K mg base 3 C "label" (spLabel C) [] := by
  refine M.met OC.cl sc_Order_label (fun vs H Q E h => ?_) (fun f cdv A outer s H vs Q E hr h => ?_)
  · obtain ⟨N, o, ms, ls, gv, ts, i, k, l, rfl, _⟩ := h
    rfl
  · obtain ⟨N, o, ms, ls, gv, ts, i, k, l, rfl, r, hk, hl, q⟩ := h
    obtain ⟨dx, m, d, fs, kvs, e1, l1, l2, l3, l4, nl, e2, e3, dc, lf, No, Nm, Nd⟩ := r.ex
    refine ⟨_, (pss_cons (ps_expr (pe_mt m__need_mark hr (by decide) (pv 0) (pa_cons (pv 1) pa_nil)))
      (pss_one (ps_ret (pe_dget (hu_of hr) (pe_fld (pv 0) rfl) (pv 1) (fun _ _ => rfl))))), ?_⟩
    refine ⟨_, rfl, o, dx, fs, rfl, e1, nl _ (by decide), _, rfl, N, o, ms, ls, gv, ts, i, k, rfl, r, hk, ?_⟩
    have dg := DGet.k (k := Sum.inl (k : Int)) e3
    rw [dc.at_ _ _ _ hk hl] at dg
    exact ⟨_, rfl, o, C, dx, fs, .ref d, rfl, e1, OC.cl, OC.n_labels, l2, _, rfl, d, _, rfl, dg, q⟩
def spLabAt (C : Addr) : Sp := fun vs H Q _ => ∃ (N : Addr → Prop) (o : Addr) (ms ls : List Nat) (gv ts i : Nat), vs = [.ref o, num i] ∧ OrdA N H o C ms ls gv ts ∧ i ≤ ms.length ∧ Q (num (labAt ls i)) H
theorem ok_labat (T : Txt K mg) (OC : OrdC K C) (m_many : Met P w K mg base 1 C "many" (spMany C) []) (M : MAt K C "_label_at" "Order._label_at" s_Order__label_at ["self", "at"]) : Met P w K mg base 2 C "_label_at" (spLabAt C) [] := by
  refine M.met OC.cl sc_Order__label_at (fun vs H Q E h => ?_) (fun f cdv A outer s H vs Q E hr h => ?_)
  · obtain ⟨N, o, ms, ls, gv, ts, i, rfl, _⟩ := h
    rfl
  · obtain ⟨N, o, ms, ls, gv, ts, i, rfl, r, hi, q⟩ := h
    obtain ⟨dx, m, d, fs, kvs, e1, l1, l2, l3, l4, nl, e2, e3, dc, lf, No, Nm, Nd⟩ := r.ex
    refine ⟨_, (pss_cons (ps_if (pt_cmpR op_eq (pv 1) (pe_mt0 m_many hr (by decide) (pv 0)) (nomark _))
          (pss_one (ps_ret (pe_gi rfl T.g_LABELS))) pss_nil)
      (pss_one (ps_ret (pe_dget (hu_of hr) (pe_fld (pv 0) rfl) (pe_ix ix_list (pe_fld (pv 0) rfl) (pv 1) (fun _ _ => rfl)) (fun _ _ => rfl))))), ?_⟩
    refine ⟨_, rfl, _, rfl, o, dx, fs, rfl, e1, nl _ (by decide), N, o, ms, ls, gv, ts, rfl, r, rfl, _, rfl, ite2 (fun e => ?_) (fun e => ?_)⟩
    · have e2 : i = ms.length := by
        have := V.int.inj (of_decide_eq_true e)
        omega
      rw [labAt_end (by rw [r.ok.len]; omega)] at q
      exact q
    · have hlt : i < ms.length := by
        by_cases z : i = ms.length
        · exact absurd (decide_eq_true (by rw [z])) e
        · omega
      obtain ⟨k, hk⟩ : ∃ k, ms[i]? = some k := ⟨_, List.getElem?_eq_getElem hlt⟩
      obtain ⟨l, hl⟩ := lab_of r.ok hk
      rw [labAt_in hl] at q
      have hat : atI (ms.map num) ((i : Nat) : Int) = some (num k) := by
        refine atI_nat ?_
        rw [List.getElem?_map, hk]
        rfl
      have dg := DGet.k (k := Sum.inl (k : Int)) e3
      rw [dc.at_ _ _ _ hk hl] at dg
      exact ⟨_, rfl, o, C, dx, fs, .ref d, rfl, e1, OC.cl, OC.n_labels, l2, _, rfl, o, C, dx, fs, .ref m, rfl, e1, OC.cl, OC.n_marks, l1, _, rfl, m, _, _, _, rfl, rfl, SqL.of e2, hat, d, _, rfl, dg, q⟩
def spMarks (C : Addr) : Sp := fun vs H Q _ => ∃ (N : Addr → Prop) (o : Addr) (ms ls : List Nat) (gv ts : Nat), vs = [.ref o] ∧ OrdA N H o C ms ls gv ts ∧ ∀ (p : Addr) (H' : Hp), H p = none → Same H H' → H' p = some (.lst (ms.map num)) → Q (.ref p) H'
theorem ok_marks (T : Txt K mg) (OC : OrdC K C) (M : MAt K C "marks" "Order.marks" s_Order_marks ["self"]) : Met P w K mg base 1 C "marks" (spMarks C) [] := by
  refine M.met OC.cl sc_Order_marks (fun vs H Q E h => ?_) (fun f cdv A outer s H vs Q E hr h => ?_)
  · obtain ⟨N, o, ms, ls, gv, ts, rfl, _⟩ := h
    rfl
  · obtain ⟨N, o, ms, ls, gv, ts, rfl, r, q⟩ := h
    obtain ⟨dx, m, d, fs, kvs, e1, l1, l2, l3, l4, nl, e2, e3, dc, lf, No, Nm, Nd⟩ := r.ex
    refine ⟨_, (pss_one (ps_ret (pe_callTy call_list_of (by rfl) T.t_list boot_list_ (pa_cons (pe_fld (pv 0) rfl) pa_nil)))), ?_⟩
    exact ⟨_, rfl, o, C, dx, fs, .ref m, rfl, e1, OC.cl, OC.n_marks, l1, m, _, rfl, .inl (SqL.of e2), fun p hp => q p _ hp (same_new hp) upd_same⟩
end
end K13
set_option maxHeartbeats 1000000
namespace K13
open PySem PySem.Spec PyProof.Rows L2 Gd
open C8 (clsBody Met pe_mt pe_mt0)
theorem valV_drop {κ : Type} [DecidableEq κ] (k j : κ) : ∀ kvs : List (κ × V), valV (dropK kvs k) j = if j = k then none else valV kvs j
  | [] => by
    split
    · exact valV_nil
    · rfl
  | p :: r => by
    by_cases e : p.1 = k
    · rw [dropK_pos e, valV_drop k j r]
      by_cases e2 : j = k
      · rw [if_pos e2, if_pos e2]
      · rw [if_neg e2, if_neg e2, valV_neg (fun z => e2 (z.symm.trans e))]
    · rw [dropK_neg e]
      by_cases e3 : p.1 = j
      · rw [valV_pos e3, if_neg (fun z => e (e3.trans z)), valV_pos e3]
      · rw [valV_neg e3, valV_drop k j r, valV_neg e3]
theorem putK_old {κ : Type} [DecidableEq κ] {kvs : List (κ × V)} {k : κ} {v x : V} (h : valV kvs k = some x) : (putK kvs k v).length = kvs.length := by
  unfold putK
  rw [if_pos (by rw [valV_any, h]; rfl), List.length_map]
theorem num_inj {x y : Nat} (h : num x = num y) : x = y := by
  have := V.int.inj h
  omega
theorem key_ne {a b : Nat} (h : a ≠ b) : ¬ (Sum.inl (a : Int) : Key) = Sum.inl (b : Int) := fun z => h (by have := Sum.inl.inj z; omega)
theorem flat_nums (xs : List Nat) : (xs.map num).all flatV = true := by
  rw [List.all_eq_true]
  intro v hv
  obtain ⟨x, _, rfl⟩ := List.mem_map.mp hv
  rfl
section
variable {P : Program} {w : World} {K : PySem.W.Frag} {mg : Str → Option Value} {base : Heap} {C : Addr}
/-- labelled anew up to the j-th -/
def partL (n : Nat) (ls : List Nat) (j : Nat) : List Nat := (anewL n).take j ++ ls.drop j
theorem part_at {n j i : Nat} {ls : List Nat} (hl : ls.length = n) (hj : j ≤ n) : (partL n ls j)[i]? = if i < j then (anewL n)[i]? else ls[i]? := by
  unfold partL
  have h1 : ((anewL n).take j).length = j := by rw [List.length_take, anew_len]; omega
  by_cases e : i < j
  · rw [if_pos e, List.getElem?_append_left (by omega), List.getElem?_take, if_pos e]
  · rw [if_neg e, List.getElem?_append_right (by omega), h1, List.getElem?_drop]
    congr 1
    omega
def spAnew (C : Addr) : Sp := fun vs H Q _ => ∃ (N : Addr → Prop) (o : Addr) (ms ls : List Nat) (gv ts : Nat), vs = [.ref o] ∧ OrdA N H o C ms ls gv ts ∧
  ∀ H' : Hp, OrdA N H' o C ms (anewL ms.length) gv (ts + 1) → (∀ c u, ¬ N c → H c = some u → H' c = some u) → Q .non H'
theorem ok_anew (T : Txt K mg) (OC : OrdC K C) (m_many : Met P w K mg base 1 C "many" (spMany C) []) (M : MAt K C "_label_anew" "Order._label_anew" s_Order__label_anew ["self"]) : Met P w K mg base 2 C "_label_anew" (spAnew C) [] := by
  refine M.met OC.cl sc_Order__label_anew (fun vs H Q E h => ?_) (fun f cdv A outer s H vs Q E hr h => ?_)
  · obtain ⟨N, o, ms, ls, gv, ts, rfl, _⟩ := h
    rfl
  · obtain ⟨N, o, ms, ls, gv, ts, rfl, r, q⟩ := h
    obtain ⟨dx, m, d, fs, kvs, e1, l1, l2, l3, l4, nl, e2, e3, dc, lf, No, Nm, Nd⟩ := r.ex
    have hpos := r.ok.pos
    have hfew := r.ok.few
    have hol := r.ok.len
    refine ⟨_, (pss_cons (ps_set (i := 1) sc_Order__label_anew.nd rfl (Or.inl rfl) (pe_op op_fdiv (pe_gi rfl T.g_LABELS) (pe_mt0 m_many hr (by decide) (pv 0))))
      (pss_cons (ps_for PassesOwn.never rfl (pi_enum (by rfl) T.b_enumerate (pa_cons (pe_fld (pv 0) rfl) pa_nil)) (pg_tup (by rfl) (pgs_cons (pg_name (i := 2) sc_Order__label_anew.nd rfl (Or.inl rfl)) (pgs_cons (pg_name (i := 3) sc_Order__label_anew.nd rfl (Or.inl rfl)) pgs_nil)))
          (pss_one (ps_dput (hu_of hr) (pe_fld (pv 0) rfl) (pv 3) (pe_op op_mul (pv 2) (pv 1)) rfl)))
      (pss_one (ps_fldaug (pv 0) pe_int in_add)))), ?_⟩
    refine ⟨_, rfl, o, dx, fs, rfl, e1, nl _ (by decide), N, o, ms, ls, gv, ts, rfl, r, _, _, rfl, rfl, ⟨by omega, by omega⟩, ?_⟩
    have es : ((1024 : Int) / ((ms.length : Nat) : Int)) = ((1024 / ms.length : Nat) : Int) := by norm_cast
    refine ⟨_, rfl, o, C, dx, fs, .ref m, rfl, e1, OC.cl, OC.n_marks, l1, m, _, rfl, SqL.of e2, ?_⟩
    have om : o ≠ m := fun e => by rw [e, e2] at e1; cases e1
    have od : o ≠ d := fun e => by rw [e, e3] at e1; cases e1
    have md : m ≠ d := fun e => by rw [e, e3] at e2; cases e2
    refine for_it (walk_enum (K := K) (a := m) (xs := ms.map num)) (fun j σ H' => (∀ c u, c ≠ d → H c = some u → H' c = some u) ∧ (∃ kvs, H' d = some (.dK kvs) ∧ DictL kvs ms (partL ms.length ls j) gv) ∧ ∃ y2 y3 : Option V, σ = [some (.ref o), some (num (1024 / ms.length)), y2, y3])
      ⟨fun _ _ _ z => z, ⟨kvs, e3, dc⟩, none, none, ?_⟩ (fun j σ H' _ hP => SqL.of (hP.1 _ _ md e2)) (fun j x σ H1 H2 hj hP hY => ?_) (fun σ H1 hP => ?_)
    · show [some (V.ref o), some (V.int ((1024 : Int) / ((ms.length : Nat) : Int))), none, none] = _
      rw [es]
      rfl
    · obtain ⟨kp, ⟨kv, hd, dk⟩, y2, y3, rfl⟩ := hP
      obtain ⟨Tp, u, v, rfl, hT, rfl, hu, hv⟩ := hY
      rw [List.length_map] at hj
      replace hu : some (V.int (j : Nat)) = some u := hu
      replace hv : (ms.map num)[j]? = some v := hv
      cases (Option.some.inj hu)
      rw [List.getElem?_map] at hv
      obtain ⟨k, hk⟩ : ∃ k, ms[j]? = some k := ⟨_, List.getElem?_eq_getElem hj⟩
      rw [hk] at hv
      cases (show some (num k) = some v from hv)
      refine ⟨Tp, _, rfl, SqT.of upd_same, rfl, _, _, rfl, _, _, rfl, rfl, ?_⟩
      have hd2 := kep (u := .tup [V.int (j : Nat), num k]) hd hT
      have kp2 : ∀ c u, c ≠ d → H c = some u → (upd H1 Tp (.tup [V.int (j : Nat), num k])) c = some u := fun c u hc z => kep (kp c u hc z) hT
      generalize upd H1 Tp (.tup [V.int (j : Nat), num k]) = H3 at *
      obtain ⟨l, hl⟩ := lab_of r.ok hk
      have hold : valV kv (Sum.inl (k : Int)) = some (num l) := dk.at_ _ _ _ hk (by rw [part_at hol (by omega), if_neg (by omega)]; exact hl)
      refine ⟨_, rfl, _, rfl, _, _, rfl, rfl, .inl ⟨by omega, by omega⟩, ?_⟩
      refine ⟨_, rfl, o, C, dx, fs, .ref d, rfl, kp2 _ _ od e1, OC.cl, OC.n_labels, l2, _, rfl, d, _, rfl, DPut.k (k := Sum.inl (k : Int)) hd2 (small1000 (by have := dk.len; have := dk.few; omega)), fun c u hc z => ?_, ⟨_, upd_same, ?_, dk.few, fun i mm ll h1 h2 => ?_, fun kk hkk => ?_⟩, _, _, rfl⟩
      · rw [upd_ne hc]
        exact kp2 c u hc z
      · rw [putK_old hold]
        exact dk.len
      · rw [valV_put]
        rw [part_at hol (by omega)] at h2
        by_cases e : mm = k
        · subst e
          have eij := r.ok.nd _ _ _ h1 hk
          subst eij
          rw [if_pos (by omega), anew_at hj] at h2
          rw [if_pos rfl, ← Option.some.inj h2]
          show some (V.int _) = some (V.int _)
          congr 2
        · rw [if_neg (key_ne e)]
          refine dk.at_ _ _ _ h1 ?_
          rw [part_at hol (by omega)]
          have hij : i ≠ j := fun z => e (by rw [z, hk] at h1; exact (Option.some.inj h1).symm)
          by_cases z : i < j
          · rw [if_pos z]
            rw [if_pos (by omega)] at h2
            exact h2
          · rw [if_neg z]
            rw [if_neg (by omega)] at h2
            exact h2
      · rw [valV_put, if_neg (key_ne fun z => hkk j (by rw [hk, z]))]
        exact dk.no kk hkk
    · obtain ⟨kp, ⟨kv, hd, dk⟩, y2, y3, rfl⟩ := hP
      have hpart : partL ms.length ls (ms.map num).length = anewL ms.length := by
        unfold partL
        rw [List.length_map, List.take_of_length_le (by rw [anew_len]; omega), List.drop_eq_nil_of_le (by omega), List.append_nil]
      rw [hpart] at dk
      refine ⟨_, rfl, o, C, dx, fs, num ts, rfl, kp _ _ od e1, OC.cl, OC.n_times, l4, _, _, rfl, rfl, dx, fs, kp _ _ od e1, by omega, ?_⟩
      have hlen := putF_len (v := .int ((ts : Int) + 1)) l4
      refine q _ ⟨⟨dx, m, d, _, kv, upd_same, ?_, ?_, ?_, ?_, fun g hg => ?_, ?_, ?_, dk, by omega, No, Nm, Nd⟩, r.ok.anew⟩ fun c u hc z => ?_
      · rw [lookup_putF, if_neg (by decide)]
        exact l1
      · rw [lookup_putF, if_neg (by decide)]
        exact l2
      · rw [lookup_putF, if_neg (by decide)]
        exact l3
      · rw [lookup_putF, if_pos rfl]
        rfl
      · rw [lookup_putF, if_neg (fun z => hg (by rw [z]; decide))]
        exact nl g hg
      · rw [upd_ne om.symm]
        exact kp _ _ md e2
      · rw [upd_ne od.symm]
        exact hd
      · rw [upd_ne (fun e : c = o => hc (by rw [e]; exact No))]
        exact kp _ _ (fun e : c = d => hc (by rw [e]; exact Nd)) z
/-- how often all were labelled anew, behind a mark put behind the i-th -/
def readyT (ls : List Nat) (i ts : Nat) : Nat := if gap ls i then ts else ts + 1
def spBehind (C : Addr) : Sp := fun vs H Q _ => ∃ (N : Addr → Prop) (o : Addr) (ms ls : List Nat) (gv ts i k : Nat), vs = [.ref o, num k] ∧ OrdA N H o C ms ls gv ts ∧ ms[i]? = some k ∧ ms.length < 200 ∧ gv < 1000 ∧
  ∀ H' : Hp, OrdA N H' o C (inl ms (i + 1) gv) (inl (readyL ls i) (i + 1) (midL ls i)) (gv + 1) (readyT ls i ts) → (∀ c u, ¬ N c → H c = some u → H' c = some u) → Q (num gv) H'
theorem ok_behind (T : Txt K mg) (OC : OrdC K C) (m_many : Met P w K mg base 1 C "many" (spMany C) []) (m__need_mark : Met P w K mg base 2 C "_need_mark" (spNeed C) []) (m__label_at : Met P w K mg base 2 C "_label_at" (spLabAt C) []) (m__label_anew : Met P w K mg base 2 C "_label_anew" (spAnew C) [])
    (M : MAt K C "behind" "Order.behind" s_Order_behind ["self", "mark"]) : Met P w K mg base 3 C "behind" (spBehind C) [] := by
  refine M.met OC.cl sc_Order_behind (fun vs H Q E h => ?_) (fun f cdv A outer s H vs Q E hr h => ?_)
  · obtain ⟨N, o, ms, ls, gv, ts, i, k, rfl, _⟩ := h
    rfl
  · obtain ⟨N, o, ms, ls, gv, ts, i, k, rfl, r, hk, few, hgv, q⟩ := h
    obtain ⟨dx, m, d, fs, kvs, e1, l1, l2, l3, l4, nl, e2, e3, dc, lf, No, Nm, Nd⟩ := r.ex
    have hi : i < ms.length := by
      by_cases z : i < ms.length
      · exact z
      · rw [List.getElem?_eq_none (by omega)] at hk
        cases hk
    have hol := r.ok.len
    refine ⟨_, (pss_cons (ps_expr (pe_mt m__need_mark hr (by decide) (pv 0) (pa_cons (pv 1) pa_nil)))
      (pss_cons (ps_if (pt_cmpR op_ge (pe_mt0 m_many hr (by decide) (pv 0)) (pe_gi rfl T.g_MOST_MARKS) (nomark _))
          (pss_one ps_never) pss_nil)
      (pss_cons (ps_set (i := 2) sc_Order_behind.nd rfl (Or.inl rfl) (pe_bm PySem.F.plainAttrs_list PySem.F.slot_list_index PySem.F.type_list_index mt_index (pe_fld (pv 0) rfl) (pa_cons (pv 1) pa_nil)))
      (pss_cons (ps_if (pt_cmpR op_lt (pe_op op_sub (pe_mt m__label_at hr (by decide) (pv 0) (pa_cons (pe_op op_add (pv 2) pe_int) pa_nil)) (pe_mt m__label_at hr (by decide) (pv 0) (pa_cons (pv 2) pa_nil))) pe_int (nomark _))
          (pss_one (ps_expr (pe_mt0 m__label_anew hr (by decide) (pv 0)))) pss_nil)
      (pss_cons (ps_set (i := 3) sc_Order_behind.nd rfl (Or.inl rfl) (pe_fld (pv 0) rfl))
      (pss_cons (ps_fldaug (pv 0) pe_int in_add)
      (pss_cons (ps_dput (hu_of hr) (pe_fld (pv 0) rfl) (pv 3) (pe_op op_fdiv (pe_op op_add (pe_mt m__label_at hr (by decide) (pv 0) (pa_cons (pv 2) pa_nil)) (pe_mt m__label_at hr (by decide) (pv 0) (pa_cons (pe_op op_add (pv 2) pe_int) pa_nil))) pe_int) rfl)
      (pss_cons (ps_expr (pe_bm PySem.F.plainAttrs_list PySem.F.slot_list_insert PySem.F.type_list_insert mt_insert (pe_fld (pv 0) rfl) (pa_cons (pe_op op_add (pv 2) pe_int) (pa_cons (pv 3) pa_nil))))
      (pss_one (ps_ret (pv 3))))))))))), ?_⟩
    refine ⟨_, rfl, o, dx, fs, rfl, e1, nl _ (by decide), _, rfl, N, o, ms, ls, gv, ts, i, k, rfl, r, hk, ?_⟩
    refine ⟨_, rfl, o, dx, fs, rfl, e1, nl _ (by decide), N, o, ms, ls, gv, ts, rfl, r, _, _, rfl, rfl, _, rfl, ?_⟩
    rw [decide_eq_false (by omega : ¬ ((200 : Int) ≤ ((ms.length : Nat) : Int)))]
    refine iteF ?_
    refine ⟨_, rfl, o, C, dx, fs, .ref m, rfl, e1, OC.cl, OC.n_marks, l1, .inl ⟨rfl, _, SqL.of e2⟩, _, rfl, m, _, num k, i, num k, rfl, rfl, SqL.of e2, rfl, flat_nums _, ?_, by simp [eqV, num], fun mm z hm hz => ?_, ?_⟩
    · rw [List.getElem?_map, hk]
      rfl
    · rw [List.getElem?_map] at hz
      cases hx : ms[mm]? with
      | none =>
        rw [hx] at hz
        cases hz
      | some x =>
        rw [hx] at hz
        cases (show some (num x) = some z from hz)
        have hne : x ≠ k := fun e => by
          subst e
          have := r.ok.nd _ _ _ hx hk
          omega
        show eqV (.int (x : Nat)) (.int (k : Nat)) = false
        simp only [eqV, decide_eq_false_iff_not, beq_eq_false_iff_ne]
        intro z
        have z2 : (x : Int) = (k : Int) := by simpa using z
        exact hne (by omega)
    have ei : ((i : Nat) : Int) + 1 = ((i + 1 : Nat) : Int) := by omega
    have vi : [V.ref o, V.int (((i : Nat) : Int) + 1)] = [V.ref o, num (i + 1)] := by
      rw [ei]
      rfl
    refine ⟨_, rfl, o, dx, fs, rfl, e1, nl _ (by decide), _, rfl, _, _, rfl, rfl, N, o, ms, ls, gv, ts, i + 1, vi, r, by omega, ?_⟩
    refine ⟨_, rfl, o, dx, fs, rfl, e1, nl _ (by decide), _, rfl, N, o, ms, ls, gv, ts, i, rfl, r, by omega, _, _, rfl, rfl, _, _, rfl, rfl, _, rfl, ?_⟩
    refine ite2 (fun hlt => ?_) (fun hlt => ?_)
    focus
      have hg : ¬ gap ls i := fun z => by
        have := of_decide_eq_true hlt
        unfold gap at z
        omega
      refine ⟨_, rfl, o, dx, fs, rfl, e1, nl _ (by decide), N, o, ms, ls, gv, ts, rfl, r, fun H1 r1 k1 => ?_⟩
      have r2 : OrdA N H1 o C ms (readyL ls i) gv (readyT ls i ts) := by
        unfold readyL readyT
        rw [if_neg hg, if_neg hg, hol]
        exact r1
      clear r1 hlt hg
    rotate_left
    focus
      have hg : gap ls i := by
        by_cases z : gap ls i
        · exact z
        · refine absurd ?_ hlt
          unfold gap at z
          exact decide_eq_true (by omega)
      obtain ⟨H1, rfl⟩ : ∃ X, X = H := ⟨_, rfl⟩
      have k1 : ∀ c u, ¬ N c → H1 c = some u → H1 c = some u := fun _ _ _ z => z
      have r2 : OrdA N H1 o C ms (readyL ls i) gv (readyT ls i ts) := by
        unfold readyL readyT
        rw [if_pos hg, if_pos hg]
        exact r
      clear hlt hg
    all_goals
      have hmid : (((labAt (readyL ls i) i : Nat) : Int) + ((labAt (readyL ls i) (i + 1) : Nat) : Int)) / 2 = ((midL ls i : Nat) : Int) := by
        unfold midL
        norm_cast
      have ok2 := r.ok.put hi few
      have hrl := ready_len ls i
      clear e1 l1 l2 l3 l4 nl e2 e3 dc lf No Nm Nd
      obtain ⟨dx, m, d, fs, kvs, e1, l1, l2, l3, l4, nl, e2, e3, dc, lf, No, Nm, Nd⟩ := r2.ex
      refine ⟨_, rfl, o, C, dx, fs, num gv, rfl, e1, OC.cl, OC.n_given, l3, ?_⟩
      refine ⟨_, rfl, o, C, dx, fs, num gv, rfl, e1, OC.cl, OC.n_given, l3, _, _, rfl, rfl, dx, fs, e1, by omega, ?_⟩
      have om : o ≠ m := fun e => by rw [e, e2] at e1; cases e1
      have od : o ≠ d := fun e => by rw [e, e3] at e1; cases e1
      have md : m ≠ d := fun e => by rw [e, e3] at e2; cases e2
      have hlen := putF_len (v := .int ((gv : Int) + 1)) l3
      have k3 : ∀ c u, c ≠ o → H1 c = some u → (upd H1 o (.ins C dx (putF "_given" (.int ((gv : Int) + 1)) fs))) c = some u := fun c u hc z => by
        rw [upd_ne hc]
        exact z
      have o3 : (upd H1 o (.ins C dx (putF "_given" (.int ((gv : Int) + 1)) fs))) o = some (.ins C dx (putF "_given" (.int ((gv : Int) + 1)) fs)) := upd_same
      have q1 : (putF "_given" (.int ((gv : Int) + 1)) fs).lookup ("_marks" : Str) = some (.ref m) := by rw [lookup_putF, if_neg (by decide)]; exact l1
      have q2 : (putF "_given" (.int ((gv : Int) + 1)) fs).lookup ("_labels" : Str) = some (.ref d) := by rw [lookup_putF, if_neg (by decide)]; exact l2
      have q3 : (putF "_given" (.int ((gv : Int) + 1)) fs).lookup ("_given" : Str) = some (num (gv + 1)) := by rw [lookup_putF, if_pos rfl]; rfl
      have q4 : (putF "_given" (.int ((gv : Int) + 1)) fs).lookup ("_times" : Str) = some (num (readyT ls i ts)) := by rw [lookup_putF, if_neg (by decide)]; exact l4
      have ql : ∀ f, f ∉ fields → (putF "_given" (.int ((gv : Int) + 1)) fs).lookup f = none := fun g hg => by
        rw [lookup_putF, if_neg (fun z => hg (by rw [z]; decide))]
        exact nl g hg
      generalize putF "_given" (.int ((gv : Int) + 1)) fs = fs3 at *
      generalize upd H1 o (.ins C dx fs3) = H3 at *
      have e23 := k3 _ _ om.symm e2
      have e33 := k3 _ _ od.symm e3
      have dc3 : DictL kvs ms (readyL ls i) (gv + 1) := ⟨by have := dc.len; omega, by omega, dc.at_, dc.no⟩
      have ok3 : Ok ms (readyL ls i) (gv + 1) := ⟨r2.ok.len, r2.ok.pos, r2.ok.few, r2.ok.nd, fun a b z => by have := r2.ok.lt a b z; omega, r2.ok.inc, r2.ok.top⟩
      have r3 : OrdA N H3 o C ms (readyL ls i) (gv + 1) (readyT ls i ts) := ⟨⟨dx, m, d, fs3, kvs, o3, q1, q2, q3, q4, ql, e23, e33, dc3, by omega, No, Nm, Nd⟩, ok3⟩
      refine ⟨_, rfl, o, dx, fs3, rfl, o3, ql _ (by decide), _, rfl, N, o, ms, readyL ls i, gv + 1, readyT ls i ts, i, rfl, r3, by omega, ?_⟩
      refine ⟨_, rfl, o, dx, fs3, rfl, o3, ql _ (by decide), _, rfl, _, _, rfl, rfl, N, o, ms, readyL ls i, gv + 1, readyT ls i ts, i + 1, vi, r3, by omega, _, _, rfl, rfl, _, _, rfl, rfl, ⟨by omega, by omega⟩, ?_⟩
      refine ⟨_, rfl, o, C, dx, fs3, .ref d, rfl, o3, OC.cl, OC.n_labels, q2, _, rfl, d, _, rfl, DPut.k (k := Sum.inl (gv : Int)) e33 (small1000 (by have := dc.len; omega)), ?_⟩
      have hnew : valV kvs (Sum.inl (gv : Int)) = none := dc.no gv fun a z => by have := r.ok.lt a gv z; omega
      have vmid : V.int ((((labAt (readyL ls i) i : Nat) : Int) + ((labAt (readyL ls i) (i + 1) : Nat) : Int)) / 2) = num (midL ls i) := by
        rw [hmid]
        rfl
      have k4 : ∀ c u, c ≠ d → H3 c = some u → (upd H3 d (.dK (putK kvs (Sum.inl (gv : Int)) (V.int ((((labAt (readyL ls i) i : Nat) : Int) + ((labAt (readyL ls i) (i + 1) : Nat) : Int)) / 2))))) c = some u := fun c u hc z => by
        rw [upd_ne hc]
        exact z
      have d4 : (upd H3 d (.dK (putK kvs (Sum.inl (gv : Int)) (V.int ((((labAt (readyL ls i) i : Nat) : Int) + ((labAt (readyL ls i) (i + 1) : Nat) : Int)) / 2))))) d = some (.dK (putK kvs (Sum.inl (gv : Int)) (num (midL ls i)))) := by
        rw [upd_same, vmid]
      show _
      generalize upd H3 d (.dK (putK kvs (Sum.inl (gv : Int)) (V.int ((((labAt (readyL ls i) i : Nat) : Int) + ((labAt (readyL ls i) (i + 1) : Nat) : Int)) / 2)))) = H4 at *
      have o4 := k4 _ _ od o3
      have m4 := k4 _ _ md e23
      refine ⟨_, rfl, o, C, dx, fs3, .ref m, rfl, o4, OC.cl, OC.n_marks, q1, .inl ⟨rfl, _, SqL.of m4⟩, _, rfl, _, _, rfl, rfl, _, rfl, m, _, _, _, rfl, rfl, m4, small1000 (by rw [List.length_map]; omega), by omega, by omega, ?_⟩
      have em : (ms.map num).take (((i : Nat) : Int) + 1).toNat ++ [num gv] ++ (ms.map num).drop (((i : Nat) : Int) + 1).toNat = (inl ms (i + 1) gv).map num := by
        rw [inl_map, show (((i : Nat) : Int) + 1).toNat = i + 1 from by omega]
        rfl
      refine ⟨_, rfl, q _ ⟨⟨dx, m, d, fs3, putK kvs (Sum.inl (gv : Int)) (num (midL ls i)), ?_, q1, q2, q3, q4, ql, ?_, ?_, ⟨?_, by omega, fun a mm ll h1 h2 => ?_, fun kk hkk => ?_⟩, by omega, No, Nm, Nd⟩, ok2⟩ fun c u hc z => ?_⟩
      · rw [upd_ne om]
        exact o4
      · rw [upd_same, em]
      · rw [upd_ne md.symm]
        exact d4
      · have := length_putK kvs (Sum.inl (gv : Int)) (num (midL ls i))
        have := dc.len
        omega
      · rw [valV_put]
        rw [inl_at (by omega)] at h1
        rw [inl_at (by omega)] at h2
        by_cases e : a < i + 1
        · rw [if_pos e] at h1 h2
          have := r.ok.lt _ _ h1
          rw [if_neg (key_ne (by omega))]
          exact dc.at_ _ _ _ h1 h2
        · rw [if_neg e] at h1 h2
          by_cases e5 : a = i + 1
          · rw [if_pos e5] at h1 h2
            rw [← Option.some.inj h1, if_pos rfl, ← Option.some.inj h2]
          · rw [if_neg e5] at h1 h2
            have := r.ok.lt _ _ h1
            rw [if_neg (key_ne (by omega))]
            exact dc.at_ _ _ _ h1 h2
      · have hkg : kk ≠ gv := fun z => hkk (i + 1) (by rw [inl_at (by omega), if_neg (by omega), if_pos rfl, z])
        rw [valV_put, if_neg (key_ne hkg)]
        refine dc.no kk fun a z => ?_
        by_cases e : a < i + 1
        · exact hkk a (by rw [inl_at (by omega), if_pos e]; exact z)
        · exact hkk (a + 1) (by rw [inl_at (by omega), if_neg (by omega), if_neg (by omega)]; exact z)
      · have c1 : c ≠ o := fun e => hc (by rw [e]; exact No)
        have c2 : c ≠ d := fun e => hc (by rw [e]; exact Nd)
        have c3 : c ≠ m := fun e => hc (by rw [e]; exact Nm)
        rw [upd_ne c3]
        exact k4 _ _ c2 (k3 _ _ c1 (k1 c u hc z))
end
end K13
set_option maxHeartbeats 1000000
namespace K13
open PySem PySem.Spec PyProof.Rows L2 Gd
open C8 (clsBody Met pe_mt pe_mt0)
theorem er_map {α β : Type} (f : α → β) (l : List α) (k : Nat) : (l.map f).eraseIdx k = (l.eraseIdx k).map f := by
  apply List.ext_getElem?
  intro j
  rw [er_at, List.getElem?_map, List.getElem?_map, List.getElem?_map, er_at]
  split
  · rfl
  · rfl
theorem none_of' {H H' : Hp} {p : Addr} (sm : Same H H') (h : H' p = none) : H p = none := by
  cases z : H p with
  | none => rfl
  | some u =>
    have z2 := sm _ _ z
    rw [h] at z2
    cases z2
section
variable {P : Program} {w : World} {K : PySem.W.Frag} {mg : Str → Option Value} {base : Heap} {C : Addr}
def spDrop (C : Addr) : Sp := fun vs H Q _ => ∃ (N : Addr → Prop) (o : Addr) (ms ls : List Nat) (gv ts i k : Nat), vs = [.ref o, num k] ∧ OrdA N H o C ms ls gv ts ∧ ms[i]? = some k ∧ 1 < ms.length ∧
  ∀ H' : Hp, OrdA N H' o C (ms.eraseIdx i) (ls.eraseIdx i) gv ts → (∀ c u, ¬ N c → H c = some u → H' c = some u) → Q .non H'
theorem ok_drop (T : Txt K mg) (OC : OrdC K C) (m_many : Met P w K mg base 1 C "many" (spMany C) []) (m__need_mark : Met P w K mg base 2 C "_need_mark" (spNeed C) [])
    (M : MAt K C "drop" "Order.drop" s_Order_drop ["self", "mark"]) : Met P w K mg base 3 C "drop" (spDrop C) [] := by
  refine M.met OC.cl sc_Order_drop (fun vs H Q E h => ?_) (fun f cdv A outer s H vs Q E hr h => ?_)
  · obtain ⟨N, o, ms, ls, gv, ts, i, k, rfl, _⟩ := h
    rfl
  · obtain ⟨N, o, ms, ls, gv, ts, i, k, rfl, r, hk, h2, q⟩ := h
    obtain ⟨dx, m, d, fs, kvs, e1, l1, l2, l3, l4, nl, e2, e3, dc, lf, No, Nm, Nd⟩ := r.ex
    have hi : i < ms.length := by
      by_cases z : i < ms.length
      · exact z
      · rw [List.getElem?_eq_none (by omega)] at hk
        cases hk
    obtain ⟨l, hl⟩ := lab_of r.ok hk
    have om : o ≠ m := fun e => by rw [e, e2] at e1; cases e1
    have od : o ≠ d := fun e => by rw [e, e3] at e1; cases e1
    have md : m ≠ d := fun e => by rw [e, e3] at e2; cases e2
    refine ⟨_, (pss_cons (ps_expr (pe_mt m__need_mark hr (by decide) (pv 0) (pa_cons (pv 1) pa_nil)))
      (pss_cons (ps_if (pt_cmpR op_eq (pe_mt0 m_many hr (by decide) (pv 0)) pe_int (nomark _))
          (pss_one ps_never) pss_nil)
      (pss_cons (ps_expr (pe_bm PySem.F.plainAttrs_list PySem.F.slot_list_remove PySem.F.type_list_remove mt_remove (pe_fld (pv 0) rfl) (pa_cons (pv 1) pa_nil)))
      (pss_one (ps_ddel (pe_fld (pv 0) rfl) (pv 1)))))), ?_⟩
    refine ⟨_, rfl, o, dx, fs, rfl, e1, nl _ (by decide), _, rfl, N, o, ms, ls, gv, ts, i, k, rfl, r, hk, ?_⟩
    refine ⟨_, rfl, o, dx, fs, rfl, e1, nl _ (by decide), N, o, ms, ls, gv, ts, rfl, r, rfl, _, rfl, ?_⟩
    rw [decide_eq_false (fun e => by have := V.int.inj e; omega : ¬ (num ms.length = V.int 1))]
    refine iteF ?_
    have em : (ms.map num) = (ms.map fun n => ((n : Nat) : Int)).map V.int := by
      rw [List.map_map]
      rfl
    have er : ((ms.map fun n => ((n : Nat) : Int)).eraseIdx i).map V.int = (ms.eraseIdx i).map num := by
      rw [er_map, List.map_map]
      rfl
    refine ⟨_, rfl, o, C, dx, fs, .ref m, rfl, e1, OC.cl, OC.n_marks, l1, .inl ⟨rfl, _, SqL.of e2⟩, _, rfl, m, ms.map (fun n => ((n : Nat) : Int)), k, i, rfl, rfl, (by rw [← em]; exact e2), ?_, fun mm hm hz => ?_, ?_⟩
    · rw [List.getElem?_map, hk]
      rfl
    · rw [List.getElem?_map] at hz
      cases hx : ms[mm]? with
      | none =>
        rw [hx] at hz
        cases hz
      | some x =>
        rw [hx] at hz
        have e : x = k := by
          have : ((x : Nat) : Int) = (k : Int) := Option.some.inj hz
          omega
        subst e
        have := r.ok.nd _ _ _ hx hk
        omega
    · rw [er]
      have k3 : ∀ c u, c ≠ m → H c = some u → (upd H m (.lst ((ms.eraseIdx i).map num))) c = some u := fun c u hc z => by
        rw [upd_ne hc]
        exact z
      have m3 : (upd H m (.lst ((ms.eraseIdx i).map num))) m = some (.lst ((ms.eraseIdx i).map num)) := upd_same
      generalize upd H m (.lst ((ms.eraseIdx i).map num)) = H3 at *
      have o3 := k3 _ _ om e1
      have d3 := k3 _ _ md.symm e3
      refine ⟨_, rfl, o, C, dx, fs, .ref d, rfl, o3, OC.cl, OC.n_labels, l2, _, rfl, d, kvs, Sum.inl (k : Int), rfl, d3, rfl, ?_, ?_⟩
      · rw [dc.at_ _ _ _ hk hl]
        rfl
      · refine q _ ⟨⟨dx, m, d, fs, dropK kvs (Sum.inl (k : Int)), ?_, l1, l2, l3, l4, nl, ?_, upd_same, ⟨?_, dc.few, fun a mm ll h1 h2 => ?_, fun kk hkk => ?_⟩, lf, No, Nm, Nd⟩, r.ok.drop hi h2⟩ fun c u hc z => ?_
        · rw [upd_ne od]
          exact o3
        · rw [upd_ne md]
          exact m3
        · exact Nat.le_trans (dropK_le _ _) dc.len
        · rw [er_at] at h1 h2
          have hne : mm ≠ k := fun e => by
            subst e
            split at h1
            · have := r.ok.nd _ _ _ h1 hk
              omega
            · have := r.ok.nd _ _ _ h1 hk
              omega
          rw [valV_drop, if_neg (key_ne hne)]
          split at h1
          · rw [if_pos (by assumption)] at h2
            exact dc.at_ _ _ _ h1 h2
          · rw [if_neg (by assumption)] at h2
            exact dc.at_ _ _ _ h1 h2
        · rw [valV_drop]
          by_cases e : kk = k
          · rw [if_pos (by rw [e])]
          · rw [if_neg (key_ne e)]
            refine dc.no kk fun a z => ?_
            have hai : a ≠ i := fun y => e (by rw [y, hk] at z; exact (Option.some.inj z).symm)
            by_cases y : a < i
            · exact hkk a (by rw [er_at, if_pos y]; exact z)
            · obtain ⟨b, rfl⟩ : ∃ b, a = b + 1 := ⟨a - 1, by omega⟩
              exact hkk b (by rw [er_at, if_neg (by omega)]; exact z)
        · have c1 : c ≠ m := fun e => hc (by rw [e]; exact Nm)
          have c2 : c ≠ d := fun e => hc (by rw [e]; exact Nd)
          rw [upd_ne c2]
          exact k3 _ _ c1 z
def spInit (C : Addr) : Sp := fun vs H Q _ => ∃ (o dx : Addr), vs = [.ref o] ∧ H o = some (.ins C dx []) ∧
  ∀ (H' : Hp) (N' : Addr → Prop), OrdA N' H' o C [0] [0] 1 0 → (∀ c u, c ≠ o → H c = some u → H' c = some u) → (∀ c, N' c → c = o ∨ H c = none) → Q .non H'
theorem fn_init {f : Addr} {fd : FuncData} (T : Txt K mg) (OC : OrdC K C) (F : Fun K "__init__" "Order.__init__" s_Order___init__ f fd) : FnOk P w K mg base CX0 1 f fd ["self"] (spInit C) := by
  refine F.ok sc_Order___init__ (fun vs H Q E h => ?_) (fun cdv A outer s H vs Q E hr h => ?_)
  · obtain ⟨o, dx, rfl, _⟩ := h
    rfl
  · obtain ⟨o, dx, rfl, e1, q⟩ := h
    refine ⟨_, (pss_cons (ps_fld (pv 0) (pe_lst (pa_cons pe_int pa_nil)) rfl)
      (pss_cons (ps_fld (pv 0) (pe_disp (pps_cons pe_int pe_int pps_nil) (by rfl) (by rfl) (fun z => by cases z) (by decide)) rfl)
      (pss_cons (ps_fld (pv 0) pe_int rfl)
      (pss_one (ps_fld (pv 0) pe_int rfl))))), ?_⟩
    refine ⟨(by show 1 ≤ sizeLine; decide), fun m hm => ?_⟩
    have om : o ≠ m := fun e => by rw [← e, e1] at hm; cases hm
    refine ⟨_, rfl, o, C, dx, [], rfl, kep e1 hm, OC.cl, OC.n_marks, by decide, ?_⟩
    have k1 : ∀ c u, c ≠ o → H c = some u → (upd (upd H m (.lst [V.int 0])) o (.ins C dx (putF "_marks" (.ref m) []))) c = some u := fun c u h z => by
      rw [upd_ne h]
      exact kep z hm
    have n1 : ∀ c, (upd (upd H m (.lst [V.int 0])) o (.ins C dx (putF "_marks" (.ref m) []))) c = none → H c = none := fun c z => upd_none (upd_none z)
    have a1o : (upd (upd H m (.lst [V.int 0])) o (.ins C dx (putF "_marks" (.ref m) []))) o = some (.ins C dx (putF "_marks" (.ref m) [])) := upd_same
    have a1m : (upd (upd H m (.lst [V.int 0])) o (.ins C dx (putF "_marks" (.ref m) []))) m = some (.lst [V.int 0]) := by
      rw [upd_ne om.symm, upd_same]
    generalize upd (upd H m (.lst [V.int 0])) o (.ins C dx (putF "_marks" (.ref m) [])) = A1 at *
    intro d hd
    have odd : o ≠ d := fun e => by rw [← e, a1o] at hd; cases hd
    have mdd : m ≠ d := fun e => by rw [← e, a1m] at hd; cases hd
    refine ⟨upd_same, [(Sum.inl 0, .int 0)], rfl, by decide, ?_⟩
    have p1 : (putF "_marks" (.ref m) ([] : List (Str × V))).length ≤ 1 := length_putF _ _ _
    refine ⟨_, rfl, o, C, dx, _, rfl, ?_, OC.cl, OC.n_labels, Nat.lt_of_le_of_lt p1 (by decide), ?_⟩
    · rw [upd_ne odd, upd_ne odd]
      exact a1o
    have k2 : ∀ c u, c ≠ o → A1 c = some u → (upd (upd (upd A1 d (.dK [])) d (.dK (mergeK [] [((Sum.inl 0 : Key), V.int 0)]))) o (.ins C dx (putF "_labels" (.ref d) (putF "_marks" (.ref m) [])))) c = some u := fun c u h z => by
      rw [upd_ne h, upd_ne (ne_of_none z hd), upd_ne (ne_of_none z hd)]
      exact z
    have a2o : (upd (upd (upd A1 d (.dK [])) d (.dK (mergeK [] [((Sum.inl 0 : Key), V.int 0)]))) o (.ins C dx (putF "_labels" (.ref d) (putF "_marks" (.ref m) [])))) o = some (.ins C dx (putF "_labels" (.ref d) (putF "_marks" (.ref m) []))) := upd_same
    have a2d : (upd (upd (upd A1 d (.dK [])) d (.dK (mergeK [] [((Sum.inl 0 : Key), V.int 0)]))) o (.ins C dx (putF "_labels" (.ref d) (putF "_marks" (.ref m) [])))) d = some (.dK [((Sum.inl 0 : Key), V.int 0)]) := by
      rw [upd_ne odd.symm, upd_same]
      rfl
    have a2m := k2 _ _ om.symm a1m
    generalize upd (upd (upd A1 d (.dK [])) d (.dK (mergeK [] [((Sum.inl 0 : Key), V.int 0)]))) o (.ins C dx (putF "_labels" (.ref d) (putF "_marks" (.ref m) []))) = A2 at *
    have p2 : (putF "_labels" (.ref d) (putF "_marks" (.ref m) ([] : List (Str × V)))).length ≤ 2 := Nat.le_trans (length_putF _ _ _) (Nat.succ_le_succ p1)
    refine ⟨_, rfl, o, C, dx, _, rfl, a2o, OC.cl, OC.n_given, Nat.lt_of_le_of_lt p2 (by decide), ?_⟩
    have p3 : (putF "_given" (.int 1) (putF "_labels" (.ref d) (putF "_marks" (.ref m) ([] : List (Str × V))))).length ≤ 3 := Nat.le_trans (length_putF _ _ _) (Nat.succ_le_succ p2)
    refine ⟨_, rfl, o, C, dx, _, rfl, upd_same, OC.cl, OC.n_times, Nat.lt_of_le_of_lt p3 (by decide), ?_⟩
    have p4 : (putF "_times" (.int 0) (putF "_given" (.int 1) (putF "_labels" (.ref d) (putF "_marks" (.ref m) ([] : List (Str × V)))))).length ≤ 4 := Nat.le_trans (length_putF _ _ _) (Nat.succ_le_succ p3)
    refine q _ (fun c => c = o ∨ c = m ∨ c = d) ⟨⟨dx, m, d, _, [((Sum.inl 0 : Key), V.int 0)], upd_same, ?_, ?_, ?_, ?_, fun g hg => ?_, ?_, ?_, ⟨Nat.le_refl 1, by decide, fun a mm ll h1 h2 => ?_, fun kk hkk => ?_⟩, Nat.le_trans p4 (by decide), .inl rfl, .inr (.inl rfl), .inr (.inr rfl)⟩, ?_⟩ (fun c u hc z => ?_) fun c hc => ?_
    · rw [lookup_putF, if_neg (by decide), lookup_putF, if_neg (by decide), lookup_putF, if_neg (by decide), lookup_putF, if_pos rfl]
    · rw [lookup_putF, if_neg (by decide), lookup_putF, if_neg (by decide), lookup_putF, if_pos rfl]
    · rw [lookup_putF, if_neg (by decide), lookup_putF, if_pos rfl]
      rfl
    · rw [lookup_putF, if_pos rfl]
      rfl
    · have hm2 : g ≠ "_times" ∧ g ≠ "_given" ∧ g ≠ "_labels" ∧ g ≠ "_marks" := ⟨fun e => hg (by rw [e]; decide), fun e => hg (by rw [e]; decide), fun e => hg (by rw [e]; decide), fun e => hg (by rw [e]; decide)⟩
      rw [lookup_putF, if_neg hm2.1, lookup_putF, if_neg hm2.2.1, lookup_putF, if_neg hm2.2.2.1, lookup_putF, if_neg hm2.2.2.2]
      rfl
    · rw [upd_ne om.symm, upd_ne om.symm]
      exact a2m
    · rw [upd_ne odd.symm, upd_ne odd.symm]
      exact a2d
    · cases a with
      | zero =>
        cases (show some 0 = some mm from h1)
        cases (show some 0 = some ll from h2)
        exact valV_pos rfl
      | succ a => cases h1
    · have hk0 : kk ≠ 0 := fun z => hkk 0 (by rw [z]; rfl)
      rw [valV_neg (fun z => key_ne (a := 0) (b := kk) (fun y => hk0 y.symm) z)]
      rfl
    · refine ⟨rfl, Nat.succ_pos 0, by decide, fun a b x h1 h2 => ?_, fun a x h1 => ?_, fun a b x y hab h1 h2 => ?_, fun a x h1 => ?_⟩
      · cases a with
        | zero =>
          cases b with
          | zero => rfl
          | succ b => cases h2
        | succ a => cases h1
      · cases a with
        | zero =>
          cases (show some 0 = some x from h1)
          decide
        | succ a => cases h1
      · cases b with
        | zero => omega
        | succ b => cases h2
      · cases a with
        | zero =>
          cases (show some 0 = some x from h1)
          decide
        | succ a => cases h1
    · rw [upd_ne hc, upd_ne hc]
      exact k2 _ _ hc (k1 _ _ hc z)
    · rcases hc with rfl | rfl | rfl
      · exact .inl rfl
      · exact .inr hm
      · exact .inr (n1 _ hd)
def spCopied (C : Addr) : Sp := fun vs H Q _ => ∃ (N : Addr → Prop) (o : Addr) (ms ls : List Nat) (gv ts : Nat), vs = [.ref o] ∧ OrdA N H o C ms ls gv ts ∧
  ∀ (u : Addr) (H' : Hp) (N' : Addr → Prop), H u = none → OrdA N' H' u C ms ls gv ts → (∀ c, N' c → H c = none) → Same H H' → Q (.ref u) H'
theorem ok_copied {fO : Addr} {fdO : FuncData} (T : Txt K mg) (OC : OrdC K C) (cO : mg "Order" = some (.ref C)) (M_Order : Mk K C fO) (B_Order : Binds K fdO ["self"] []) (G_Order : FnOk P w K mg base CX0 1 fO fdO ["self"] (spInit C))
    (M : MAt K C "copied" "Order.copied" s_Order_copied ["self"]) : Met P w K mg base 3 C "copied" (spCopied C) [] := by
  refine M.met OC.cl sc_Order_copied (fun vs H Q E h => ?_) (fun f cdv A outer s H vs Q E hr h => ?_)
  · obtain ⟨N, o, ms, ls, gv, ts, rfl, _⟩ := h
    rfl
  · obtain ⟨N, o, ms, ls, gv, ts, rfl, r, q⟩ := h
    obtain ⟨dx, m, d, fs, kvs, e1, l1, l2, l3, l4, nl, e2, e3, dc, lf, No, Nm, Nd⟩ := r.ex
    refine ⟨_, (pss_cons (ps_set (i := 1) sc_Order_copied.nd rfl (Or.inl rfl) (pe_make0 M_Order G_Order (hr.mono (by decide)) rfl cO B_Order .nil pass0))
      (pss_cons (ps_fld (pv 1) (pe_callTy call_list_of (by rfl) T.t_list boot_list_ (pa_cons (pe_fld (pv 0) rfl) pa_nil)) rfl)
      (pss_cons (ps_fld (pv 1) (pe_callTy call_dictD (by rfl) T.t_dict boot_dict_ (pa_cons (pe_fld (pv 0) rfl) pa_nil)) rfl)
      (pss_cons (ps_fld (pv 1) (pe_fld (pv 0) rfl) rfl)
      (pss_cons (ps_fld (pv 1) (pe_fld (pv 0) rfl) rfl)
      (pss_one (ps_ret (pv 1)))))))), ?_⟩
    intro u du n1 n2 ne
    refine ⟨u, du, rfl, upd_same, fun H1 N1 r1 k1 f1 => ⟨rfl, ?_⟩⟩
    have sm : Same H H1 := fun c x z => k1 c x (ne_of_none z n1) (by rw [upd_ne (ne_of_none z n1), upd_ne (ne_of_none z n2)]; exact z)
    obtain ⟨dy, m1, d1, gs, kv1, y1, z1, z2, z3, z4, zl, y2, y3, dc1, lg, No1, Nm1, Nd1⟩ := r1.ex
    refine ⟨_, rfl, o, C, dx, fs, .ref m, rfl, sm _ _ e1, OC.cl, OC.n_marks, l1, m, _, rfl, .inl (SqL.of (sm _ _ e2)), fun p hp => ?_⟩
    have pu : p ≠ u := fun e => by rw [e, y1] at hp; cases hp
    refine ⟨_, rfl, u, C, dy, gs, rfl, kep y1 hp, OC.cl, OC.n_marks, by omega, ?_⟩
    have g1 := putF_len (v := .ref p) z1
    have sm2 : Same H (upd (upd H1 p (.lst (ms.map num))) u (.ins C dy (putF "_marks" (.ref p) gs))) := fun c x z => by
      rw [upd_ne (ne_of_none z n1)]
      exact kep (sm _ _ z) hp
    have a2u : (upd (upd H1 p (.lst (ms.map num))) u (.ins C dy (putF "_marks" (.ref p) gs))) u = some (.ins C dy (putF "_marks" (.ref p) gs)) := upd_same
    have a2p : (upd (upd H1 p (.lst (ms.map num))) u (.ins C dy (putF "_marks" (.ref p) gs))) p = some (.lst (ms.map num)) := by
      rw [upd_ne pu, upd_same]
    have w1 : (putF "_marks" (.ref p) gs).lookup ("_marks" : Str) = some (.ref p) := by rw [lookup_putF, if_pos rfl]
    have w2 : (putF "_marks" (.ref p) gs).lookup ("_labels" : Str) = some (.ref d1) := by rw [lookup_putF, if_neg (by decide)]; exact z2
    have w3 : (putF "_marks" (.ref p) gs).lookup ("_given" : Str) = some (num 1) := by rw [lookup_putF, if_neg (by decide)]; exact z3
    have w4 : (putF "_marks" (.ref p) gs).lookup ("_times" : Str) = some (num 0) := by rw [lookup_putF, if_neg (by decide)]; exact z4
    have wl : ∀ f, f ∉ fields → (putF "_marks" (.ref p) gs).lookup f = none := fun g hg => by
      rw [lookup_putF, if_neg (fun z => hg (by rw [z]; decide))]
      exact zl g hg
    have np : H p = none := none_of' sm hp
    generalize putF "_marks" (.ref p) gs = g2 at *
    generalize upd (upd H1 p (.lst (ms.map num))) u (.ins C dy g2) = A2 at *
    clear y1 y2 y3 z1 z2 z3 z4 zl dc1 k1 r1 Nm1 Nd1 No1
    refine ⟨_, rfl, o, C, dx, fs, .ref d, rfl, sm2 _ _ e1, OC.cl, OC.n_labels, l2, d, kvs, rfl, .inl (sm2 _ _ e3), fun p2 hp2 => ?_⟩
    have p2u : p2 ≠ u := fun e => by rw [e, a2u] at hp2; cases hp2
    have p2p : p ≠ p2 := fun e => by rw [← e, a2p] at hp2; cases hp2
    refine ⟨_, rfl, u, C, dy, g2, rfl, kep a2u hp2, OC.cl, OC.n_labels, by omega, ?_⟩
    have g3l := putF_len (v := .ref p2) w2
    have sm3 : Same H (upd (upd A2 p2 (.dK kvs)) u (.ins C dy (putF "_labels" (.ref p2) g2))) := fun c x z => by
      rw [upd_ne (ne_of_none z n1)]
      exact kep (sm2 _ _ z) hp2
    have a3u : (upd (upd A2 p2 (.dK kvs)) u (.ins C dy (putF "_labels" (.ref p2) g2))) u = some (.ins C dy (putF "_labels" (.ref p2) g2)) := upd_same
    have a3p : (upd (upd A2 p2 (.dK kvs)) u (.ins C dy (putF "_labels" (.ref p2) g2))) p = some (.lst (ms.map num)) := by
      rw [upd_ne pu]
      exact kep a2p hp2
    have a3d : (upd (upd A2 p2 (.dK kvs)) u (.ins C dy (putF "_labels" (.ref p2) g2))) p2 = some (.dK kvs) := by
      rw [upd_ne p2u, upd_same]
    have v1 : (putF "_labels" (.ref p2) g2).lookup ("_marks" : Str) = some (.ref p) := by rw [lookup_putF, if_neg (by decide)]; exact w1
    have v2 : (putF "_labels" (.ref p2) g2).lookup ("_labels" : Str) = some (.ref p2) := by rw [lookup_putF, if_pos rfl]
    have v3 : (putF "_labels" (.ref p2) g2).lookup ("_given" : Str) = some (num 1) := by rw [lookup_putF, if_neg (by decide)]; exact w3
    have v4 : (putF "_labels" (.ref p2) g2).lookup ("_times" : Str) = some (num 0) := by rw [lookup_putF, if_neg (by decide)]; exact w4
    have vl : ∀ f, f ∉ fields → (putF "_labels" (.ref p2) g2).lookup f = none := fun g hg => by
      rw [lookup_putF, if_neg (fun z => hg (by rw [z]; decide))]
      exact wl g hg
    have np2 : H p2 = none := none_of' sm2 hp2
    generalize putF "_labels" (.ref p2) g2 = g3 at *
    generalize upd (upd A2 p2 (.dK kvs)) u (.ins C dy g3) = A3 at *
    refine ⟨_, rfl, o, C, dx, fs, num gv, rfl, sm3 _ _ e1, OC.cl, OC.n_given, l3, ?_⟩
    refine ⟨_, rfl, u, C, dy, g3, rfl, a3u, OC.cl, OC.n_given, by omega, ?_⟩
    have g4l := putF_len (v := num gv) v3
    have ou : o ≠ u := ne_of_none e1 n1
    refine ⟨_, rfl, o, C, dx, fs, num ts, rfl, ?_, OC.cl, OC.n_times, l4, ?_⟩
    · rw [upd_ne ou]
      exact sm3 _ _ e1
    have v5 : (putF "_given" (num gv) g3).lookup ("_times" : Str) = some (num 0) := by rw [lookup_putF, if_neg (by decide)]; exact v4
    have g5l := putF_len (v := num ts) v5
    refine ⟨_, rfl, u, C, dy, _, rfl, upd_same, OC.cl, OC.n_times, by omega, ?_⟩
    refine ⟨_, rfl, q u _ (fun c => c = u ∨ c = p ∨ c = p2) n1 ⟨⟨dy, p, p2, _, kvs, upd_same, ?_, ?_, ?_, ?_, fun g hg => ?_, ?_, ?_, dc, by omega, .inl rfl, .inr (.inl rfl), .inr (.inr rfl)⟩, r.ok⟩ (fun c hc => ?_) fun c x z => ?_⟩
    · rw [lookup_putF, if_neg (by decide), lookup_putF, if_neg (by decide)]
      exact v1
    · rw [lookup_putF, if_neg (by decide), lookup_putF, if_neg (by decide)]
      exact v2
    · rw [lookup_putF, if_neg (by decide), lookup_putF, if_pos rfl]
    · rw [lookup_putF, if_pos rfl]
    · rw [lookup_putF, if_neg (fun z => hg (by rw [z]; decide)), lookup_putF, if_neg (fun z => hg (by rw [z]; decide))]
      exact vl g hg
    · rw [upd_ne pu, upd_ne pu]
      exact a3p
    · rw [upd_ne p2u, upd_ne p2u]
      exact a3d
    · rcases hc with rfl | rfl | rfl
      · exact n1
      · exact np
      · exact np2
    · rw [upd_ne (ne_of_none z n1), upd_ne (ne_of_none z n1)]
      exact sm3 _ _ z
end
end K13
set_option maxHeartbeats 1000000
namespace K13
open PySem PySem.Spec PyProof.Rows L2 Gd
open C8 (clsBody Met pe_mt pe_mt0)
abbrev kl : Key := Sum.inr "left"
abbrev ks : Key := Sum.inr "seed"
abbrev kt : Key := Sum.inr "turn"
abbrev kr : Key := Sum.inr "row"
abbrev kg : Key := Sum.inr "given"
/-- the box of a cell, at most so many numbers drawn -/
def BoxD (H : Hp) (b : Addr) (n : Int) : Prop := ∃ (x y z : Int) (kvs : List (Key × V)), H b = some (.dK kvs) ∧ kvs.length = 3 ∧ valV kvs kl = some (.int x) ∧ valV kvs ks = some (.int y) ∧ valV kvs kt = some (.int z) ∧ 0 ≤ x ∧ 0 ≤ y ∧ y < 2147483647 ∧ 0 ≤ z ∧ z ≤ n
theorem BoxD.kp {H H' : Hp} {b : Addr} {n : Int} (h : BoxD H b n) (k : ∀ u, H b = some u → H' b = some u) : BoxD H' b n := by
  obtain ⟨x, y, z, kvs, h1, h2⟩ := h
  exact ⟨x, y, z, kvs, k _ h1, h2⟩
theorem BoxD.some {H : Hp} {b : Addr} {n : Int} (h : BoxD H b n) : ∃ u, H b = some u := by
  obtain ⟨x, y, z, kvs, h1, h2⟩ := h
  exact ⟨_, h1⟩
theorem BoxD.up {H : Hp} {b : Addr} {n m : Int} (h : BoxD H b n) (k : n ≤ m) : BoxD H b m := by
  obtain ⟨x, y, z, kvs, h1, h2, h3, h4, h5, h6, h7, h8, h9, h10⟩ := h
  exact ⟨x, y, z, kvs, h1, h2, h3, h4, h5, h6, h7, h8, h9, by omega⟩
theorem BoxD.ne {H : Hp} {b p : Addr} {n : Int} (h : BoxD H b n) (e : H p = none) : p ≠ b := fun z => by
  obtain ⟨u, hu⟩ := h.some
  rw [z, hu] at e
  cases e
theorem dgs {H : Hp} {a : Addr} {kvs : List (Key × V)} {k : Str} {v : V} (e : H a = some (.dK kvs)) (h : valV kvs (Sum.inr k) = some v) : DGet H a (.str k) (some v) := h ▸ DGet.k (k := Sum.inr k) e
section
variable {P : Program} {w : World} {K : PySem.W.Frag} {mg : Str → Option Value} {base : Heap} {C : Addr}
theorem ok_cell (T : Txt K mg) (D : DefAt K mg "_law_cell_at" s__law_cell_at ["_law_script", "_law_k"]) : CalG P w K mg base 1 "_law_cell_at" (Gd.spCell K) := by
  refine D.cal sc__law_cell_at (fun vs H Q E h => ?_) (fun f cdv A outer s H vs Q E hG hr h => ?_)
  · obtain ⟨a, ns, k, rfl, _⟩ := h
    rfl
  · obtain ⟨a, ns, k, rfl, hS, hl, hk, q⟩ := h
    refine ⟨_, (pss_cons (ps_if (pt_cmpR op_lt (pv 1) (pe_callB call_len (by rfl) T.b_len boot_len_ (pa_cons (pv 0) pa_nil)) (nomark _))
          (pss_one (ps_ret (pe_ix ix_list (pv 0) (pv 1) (fun _ _ => rfl)))) pss_nil)
      (pss_one (ps_ret (pe_op op_add (pe_op op_mul pe_int (pv 1)) pe_int)))), ?_⟩
    refine ⟨_, rfl, _, rfl, _, _, rfl, .inl ⟨_, hS, rfl⟩, _, _, rfl, rfl, _, rfl, ?_⟩
    refine ite2 (fun e => ?_) (fun e => ?_)
    · have e2 := of_decide_eq_true e
      rw [List.length_map] at e2
      obtain ⟨n, hn⟩ := atI_ints hk e2
      exact ⟨_, rfl, _, rfl, _, _, _, _, rfl, rfl, hS, hn, q n⟩
    · exact ⟨_, rfl, _, _, rfl, rfl, .inl ⟨by decide, by decide⟩, _, _, rfl, rfl, q _⟩
def spBoxD : Sp := fun vs H Q _ => ∃ n : Int, vs = [.int n] ∧ ∀ (b : Addr) (H' : Hp), H b = none → BoxD H' b 0 → (∀ c, c ≠ b → H' c = H c) → Q (.ref b) H'
theorem ok_box (T : Txt K mg) (D : DefAt K mg "_law_box" s__law_box ["_law_cell"]) : CalG P w K mg base 1 "_law_box" spBoxD := by
  refine D.cal sc__law_box (fun vs H Q E h => ?_) (fun f cdv A outer s H vs Q E hG hr h => ?_)
  · obtain ⟨n, rfl, _⟩ := h
    rfl
  · obtain ⟨n, rfl, q⟩ := h
    refine ⟨_, (pss_one (ps_ret (pe_disp (pps_cons pe_str (pe_callB (call_max2 rfl) (by rfl) T.b_max boot_max_ (pa_cons pe_int (pa_cons (pe_op op_sub (pv 0) (pe_op op_pow pe_int pe_int)) pa_nil))) (pps_cons pe_str (pe_op op_mod (pv 0) pe_int) (pps_cons pe_str pe_int pps_nil))) (by rfl) (by rfl) (fun z => by cases z) (by decide)))), ?_⟩
    intro b hb
    refine ⟨_, rfl, _, _, rfl, rfl, ⟨by decide, by decide, by decide⟩, _, _, rfl, rfl, _, _, rfl, ?_⟩
    refine ⟨_, rfl, _, _, rfl, rfl, (by show (0 : Int) < 2147483647; decide), ?_⟩
    refine ⟨upd_same, [(kl, _), (ks, _), (kt, .int 0)], rfl, (by show 3 ≤ 15; decide), ?_⟩
    refine q b _ hb ⟨_, _, _, _, upd_same, rfl, valV_pos rfl, (valV_neg (show ¬ kl = ks by decide)).trans (valV_pos rfl), (valV_neg (show ¬ kl = kt by decide)).trans ((valV_neg (show ¬ ks = kt by decide)).trans (valV_pos rfl)), ?_, ?_, ?_, by decide, by decide⟩ fun c hc => ?_
    · split <;> omega
    · exact Int.emod_nonneg _ (by decide)
    · exact Int.emod_lt_of_pos _ (by decide)
    · rw [upd_ne hc, upd_ne hc]
def spTakeD : Sp := fun vs H Q _ => ∃ (b : Addr) (m n : Int), vs = [.ref b, .int m] ∧ BoxD H b n ∧ n ≤ 1000000 ∧ 0 < m ∧ m ≤ 1000000000 ∧
  ∀ (d : Int) (H' : Hp), 0 ≤ d → d < m → BoxD H' b (n + 1) → (∀ c, c ≠ b → H' c = H c) → Q (.int d) H'
theorem ok_take (T : Txt K mg) (D : DefAt K mg "_law_take" s__law_take ["_law_box_here", "_law_many"]) : CalG P w K mg base 1 "_law_take" spTakeD := by
  refine D.cal sc__law_take (fun vs H Q E h => ?_) (fun f cdv A outer s H vs Q E hG hr h => ?_)
  · obtain ⟨b, m, n, rfl, _⟩ := h
    rfl
  · obtain ⟨b, m, n, rfl, hB, hn, hm0, hm1, q⟩ := h
    obtain ⟨x, y, z, kvs, hb, hl3, vl, vs, vt, hx, hy0, hy1, hz0, hz1⟩ := hB
    refine ⟨_, (pss_cons (ps_if (pt_cmpR op_gt (pe_dget (hu_of hr) (pv 0) pe_str (fun _ _ => rfl)) pe_int (nomark _))
          (pss_cons (ps_set (i := 2) sc__law_take.nd rfl (Or.inl rfl) (pe_op op_mod (pe_dget (hu_of hr) (pv 0) pe_str (fun _ _ => rfl)) (pv 1)))
          (pss_cons (ps_dput (hu_of hr) (pv 0) pe_str (pe_op op_fdiv (pe_dget (hu_of hr) (pv 0) pe_str (fun _ _ => rfl)) (pv 1)) rfl)
          (pss_one (ps_ret (pv 2))))) pss_nil)
      (pss_cons (ps_dput (hu_of hr) (pv 0) pe_str (pe_op op_add (pe_dget (hu_of hr) (pv 0) pe_str (fun _ _ => rfl)) pe_int) rfl)
      (pss_cons (ps_set (i := 3) sc__law_take.nd rfl (Or.inl rfl) (pe_op op_mod (pe_op op_pow (pe_op op_add (pe_dget (hu_of hr) (pv 0) pe_str (fun _ _ => rfl)) (pe_op op_mul pe_int (pe_dget (hu_of hr) (pv 0) pe_str (fun _ _ => rfl)))) pe_int) pe_int))
      (pss_cons (ps_set (i := 3) sc__law_take.nd rfl (Or.inl rfl) (pe_op op_mod (pe_op op_pow (pe_op op_add (pv 3) (pe_op op_mul pe_int (pe_dget (hu_of hr) (pv 0) pe_str (fun _ _ => rfl)))) pe_int) pe_int))
      (pss_one (ps_ret (pe_op op_mod (pe_op op_fdiv (pv 3) pe_int) (pv 1)))))))), ?_⟩
    refine ⟨_, rfl, b, _, rfl, dgs hb vl, _, _, rfl, rfl, _, rfl, ?_⟩
    refine ite2 (fun e => ?_) (fun e => ?_)
    · have e2 := of_decide_eq_true e
      refine ⟨_, rfl, b, _, rfl, dgs hb vl, _, rfl, _, _, rfl, rfl, hm0, ?_⟩
      refine ⟨_, rfl, b, _, rfl, dgs hb vl, _, rfl, _, _, rfl, rfl, ⟨hm0, by omega⟩, ?_⟩
      refine ⟨_, rfl, b, _, rfl, DPut.k (k := kl) hb (small1000 (by omega)), ?_⟩
      refine ⟨_, rfl, ?_⟩
      refine q _ _ (Int.emod_nonneg _ (by omega)) (Int.emod_lt_of_pos _ hm0) ⟨x / m, y, z, _, upd_same, ?_, ?_, ?_, ?_, ?_, hy0, hy1, hz0, by omega⟩ fun c hc => upd_ne hc
      · rw [putK_old vl]
        exact hl3
      · rw [valV_put, if_pos rfl]
      · rw [valV_put, if_neg (by decide)]
        exact vs
      · rw [valV_put, if_neg (by decide)]
        exact vt
      · exact Int.ediv_nonneg (by omega) (by omega)
    · refine ⟨_, rfl, b, _, rfl, dgs hb vt, _, _, rfl, rfl, ?_⟩
      refine ⟨_, rfl, b, _, rfl, DPut.k (k := kt) hb (small1000 (by omega)), ?_⟩
      have hb1 : (upd H b (.dK (putK kvs kt (.int (z + 1))))) b = some (.dK (putK kvs kt (.int (z + 1)))) := upd_same
      have vl1 : valV (putK kvs kt (.int (z + 1))) kl = some (.int x) := by rw [valV_put, if_neg (by decide)]; exact vl
      have vs1 : valV (putK kvs kt (.int (z + 1))) ks = some (.int y) := by rw [valV_put, if_neg (by decide)]; exact vs
      have vt1 : valV (putK kvs kt (.int (z + 1))) kt = some (.int (z + 1)) := by rw [valV_put, if_pos rfl]
      have hl1 : (putK kvs kt (.int (z + 1))).length = 3 := by rw [putK_old vt]; exact hl3
      generalize putK kvs kt (.int (z + 1)) = kv1 at *
      refine ⟨_, rfl, b, _, rfl, dgs hb1 vs1, _, rfl, b, _, rfl, dgs hb1 vt1, _, _, rfl, rfl, .inl ⟨by omega, by omega⟩, _, _, rfl, rfl, ?_⟩
      refine ⟨_, _, rfl, rfl, ⟨by decide, by decide, by omega⟩, _, _, rfl, rfl, (by show (0 : Int) < 2147483629; decide), ?_⟩
      generalize hA : (y + 7919 * (z + 1)) ^ (3 : Int).toNat % 2147483629 = A
      have a0 : 0 ≤ A := hA ▸ Int.emod_nonneg _ (by decide)
      have a1 : A < 2147483629 := hA ▸ Int.emod_lt_of_pos _ (by decide)
      clear hA
      refine ⟨_, rfl, _, rfl, b, _, rfl, dgs hb1 vt1, _, _, rfl, rfl, .inl ⟨by omega, by omega⟩, _, _, rfl, rfl, ?_⟩
      refine ⟨_, _, rfl, rfl, ⟨by decide, by decide, by omega⟩, _, _, rfl, rfl, (by show (0 : Int) < 2147483587; decide), ?_⟩
      refine ⟨_, rfl, _, _, rfl, rfl, ⟨by decide, by decide⟩, ?_⟩
      refine ⟨_, rfl, _, _, rfl, rfl, hm0, ?_⟩
      exact q _ _ (Int.emod_nonneg _ (by omega)) (Int.emod_lt_of_pos _ hm0) ⟨_, _, _, _, hb1, hl1, vl1, vs1, vt1, hx, hy0, hy1, by omega, by omega⟩ fun c hc => upd_ne hc
end
end K13
set_option maxHeartbeats 1000000
namespace K13
open PySem PySem.Spec PyProof.Rows L2 Gd Gx
open C8 (clsBody Met pe_mt pe_mt0)
abbrev km : Key := Sum.inr "times"
/-- a row of pairs of a mark and its label -/
structure RowX (H : Hp) (xs : List V) (ms ls : List Nat) : Prop where
  lm : xs.length = ms.length
  ll : ls.length = ms.length
  at_ : ∀ (i m l : Nat), ms[i]? = some m → ls[i]? = some l → ∃ t, xs[i]? = some (.ref t) ∧ H t = some (.tup [num m, num l])
def Row (H : Hp) (r : Addr) (ms ls : List Nat) : Prop := ∃ xs, H r = some (.lst xs) ∧ RowX H xs ms ls
/-- every tuple stays -/
def KT (H H' : Hp) : Prop := ∀ (c : Addr) (ys : List V), H c = some (.tup ys) → H' c = some (.tup ys)
theorem KT.of {H H' : Hp} (s : Same H H') : KT H H' := fun c ys z => s c _ z
theorem KT.trans {H1 H2 H3 : Hp} (a : KT H1 H2) (b : KT H2 H3) : KT H1 H3 := fun c ys z => b c ys (a c ys z)
theorem RowX.kp {H H' : Hp} {xs : List V} {ms ls : List Nat} (h : RowX H xs ms ls) (k : KT H H') : RowX H' xs ms ls :=
  ⟨h.lm, h.ll, fun i m l a b => by
    obtain ⟨t, e1, e2⟩ := h.at_ i m l a b
    exact ⟨t, e1, k t _ e2⟩⟩
theorem RowX.get {H : Hp} {xs : List V} {ms ls : List Nat} (h : RowX H xs ms ls) {i : Nat} (hi : i < ms.length) : ∃ m l t, ms[i]? = some m ∧ ls[i]? = some l ∧ xs[i]? = some (.ref t) ∧ H t = some (.tup [num m, num l]) := by
  have h2 := h.ll
  obtain ⟨t, e1, e2⟩ := h.at_ i _ _ (List.getElem?_eq_getElem hi) (List.getElem?_eq_getElem (by omega : i < ls.length))
  exact ⟨_, _, t, List.getElem?_eq_getElem hi, List.getElem?_eq_getElem (by omega), e1, e2⟩
theorem RowX.inl {H : Hp} {xs : List V} {ms ls : List Nat} (h : RowX H xs ms ls) {k m l t : Nat} (hk : k ≤ ms.length) (e : H t = some (.tup [num m, num l])) : RowX H (inl xs k (.ref t)) (K13.inl ms k m) (K13.inl ls k l) := by
  have h1 := h.lm
  have h2 := h.ll
  refine ⟨by rw [inl_len (by omega), inl_len hk, h1], by rw [inl_len (by omega), inl_len hk, h2], fun i a b e1 e2 => ?_⟩
  rw [inl_at hk] at e1
  rw [inl_at (by omega)] at e2
  by_cases z : i < k
  · rw [if_pos z] at e1 e2
    obtain ⟨u, p, q⟩ := h.at_ i a b e1 e2
    exact ⟨u, by rw [inl_at (by omega), if_pos z]; exact p, q⟩
  · rw [if_neg z] at e1 e2
    by_cases z2 : i = k
    · rw [if_pos z2] at e1 e2
      refine ⟨t, by rw [inl_at (by omega), if_neg z, if_pos z2], ?_⟩
      rw [← Option.some.inj e1, ← Option.some.inj e2]
      exact e
    · rw [if_neg z2] at e1 e2
      obtain ⟨u, p, q⟩ := h.at_ _ a b e1 e2
      exact ⟨u, by rw [inl_at (by omega), if_neg z, if_neg z2]; exact p, q⟩
theorem RowX.erase {H : Hp} {xs : List V} {ms ls : List Nat} (h : RowX H xs ms ls) {k : Nat} (hk : k < ms.length) : RowX H (xs.eraseIdx k) (ms.eraseIdx k) (ls.eraseIdx k) := by
  have h1 := h.lm
  have h2 := h.ll
  refine ⟨by rw [er_len (by omega), er_len hk, h1], by rw [er_len (by omega), er_len hk, h2], fun i a b e1 e2 => ?_⟩
  rw [er_at] at e1 e2
  by_cases z : i < k
  · rw [if_pos z] at e1 e2
    obtain ⟨u, p, q⟩ := h.at_ i a b e1 e2
    exact ⟨u, by rw [er_at, if_pos z]; exact p, q⟩
  · rw [if_neg z] at e1 e2
    obtain ⟨u, p, q⟩ := h.at_ _ a b e1 e2
    exact ⟨u, by rw [er_at, if_neg z]; exact p, q⟩
def pd (p : Nat × Nat) : PyData := .tuple [.int (p.1 : Nat), .int (p.2 : Nat)]
theorem RowX.tail {H : Hp} {x : V} {xs : List V} {m l : Nat} {ms ls : List Nat} (h : RowX H (x :: xs) (m :: ms) (l :: ls)) : RowX H xs ms ls :=
  ⟨by have := h.lm; simpa using this, by have := h.ll; simpa using this, fun i a b e1 e2 => h.at_ (i + 1) a b e1 e2⟩
theorem RowX.dp {K : PySem.W.Frag} {H : Hp} : ∀ {xs : List V} {ms ls : List Nat}, RowX H xs ms ls → DpAll K H xs ((ms.zip ls).map pd)
  | [], ms, ls, h => by
    have h1 := h.lm
    obtain rfl : ms = [] := List.length_eq_zero_iff.mp h1.symm
    exact .nil
  | x :: xs, [], ls, h => by
    have h1 := h.lm
    cases h1
  | x :: xs, m :: ms, [], h => by
    have h1 := h.ll
    cases h1
  | x :: xs, m :: ms, l :: ls, h => by
    obtain ⟨t, e1, e2⟩ := h.at_ 0 m l rfl rfl
    obtain rfl := Option.some.inj e1
    exact .cons (.tup (SqT.of e2) (.cons (.int _) (.cons (.int _) .nil))) (RowX.dp h.tail)
theorem numOk {n : Nat} (h : n ≤ 1024) : Okd (.int (n : Nat)) 50 0 := okInt ⟨by
  have : (-(10 : Int) ^ 40) ≤ 0 := by decide
  omega, by
  have : (1024 : Int) ≤ 10 ^ 40 := by decide
  omega⟩
theorem rowOk {ms ls : List Nat} {gv : Nat} (o : Ok ms ls gv) (hg : gv ≤ 1000) : Okd (.list ((ms.zip ls).map pd)) 30000 2 := by
  have h1 := o.few
  refine (okList (m := 107) (e := 1) (n := 200) (fun d hd => ?_) ?_).up (by decide) (by decide)
  · obtain ⟨p, hp, rfl⟩ := List.mem_map.mp hd
    obtain ⟨j, hj⟩ := List.getElem?_of_mem hp
    have hj2 := List.getElem?_zip_eq_some.mp hj
    have a := o.lt _ _ hj2.1
    have b := o.top _ _ hj2.2
    refine (okTuple (ds := [.int (p.1 : Nat), .int (p.2 : Nat)]) (m := 50) (e := 0) (n := 2) (fun d hd => ?_) (Nat.le_refl 2)).up (by decide) (by decide)
    rcases List.mem_cons.mp hd with rfl | hd
    · exact numOk (by omega)
    · rcases List.mem_cons.mp hd with rfl | hd
      · exact numOk (by omega)
      · cases hd
  · rw [List.length_map, List.length_zip]
    omega
section
variable {P : Program} {w : World} {K : PySem.W.Frag} {mg : Str → Option Value} {base : Heap} {C : Addr}
theorem yesI {σ : L2.St} {H : Hp} {A B : Hp → Prop} (h : A H) : tYes σ H (fun b H3 => if b = true then A H3 else B H3) := by
  show (if true = true then A H else B H)
  rw [if_pos rfl]
  exact h
/-! the end of the room behind the one at a place -/
def spEnd : Sp := fun vs H Q _ => ∃ (r : Addr) (ms ls : List Nat) (i : Nat), vs = [.ref r, num i] ∧ Row H r ms ls ∧ i < ms.length ∧ Q (num (labAt ls (i + 1))) H
theorem ok_end (T : Txt K mg) (D : DefAt K mg "_law_end" s__law_end ["_law_row", "_law_at"]) : CalG P w K mg base 1 "_law_end" spEnd := by
  refine D.cal sc__law_end (fun vs H Q E h => ?_) (fun f cdv A outer s H vs Q E hG hr h => ?_)
  · obtain ⟨r, ms, ls, i, rfl, _⟩ := h
    rfl
  · obtain ⟨r, ms, ls, i, rfl, ⟨xs, e1, row⟩, hi, q⟩ := h
    have h1 := row.lm
    have h2 := row.ll
    refine ⟨_, (pss_cons (ps_if (pt_cmpR op_lt (pe_op op_add (pv 1) pe_int) (pe_callB call_len (by rfl) T.b_len boot_len_ (pa_cons (pv 0) pa_nil)) (nomark _))
          (pss_one (ps_ret (pe_ix ix_tup (pe_ix ix_list (pv 0) (pe_op op_add (pv 1) pe_int) (fun _ _ => rfl)) pe_int (fun _ _ => rfl)))) pss_nil)
      (pss_one (ps_ret pe_int))), ?_⟩
    refine ⟨_, rfl, _, _, rfl, rfl, _, rfl, .ref r, _, rfl, .inl ⟨_, SqL.of e1, rfl⟩, _, _, rfl, rfl, _, rfl, ?_⟩
    refine ite2 (fun hc => ?_) (fun hc => ?_)
    · have hc := of_decide_eq_true hc
      obtain ⟨m, l, t, g1, g2, g3, g4⟩ := row.get (i := i + 1) (by omega)
      refine ⟨_, rfl, _, rfl, _, _, rfl, rfl, r, _, _, _, rfl, rfl, SqL.of e1, (by have := atI_nat g3; exact this), ?_⟩
      refine ⟨t, _, _, num l, rfl, rfl, SqT.of g4, rfl, ?_⟩
      rw [labAt_in g2] at q
      exact q
    · have hc : ¬ (((i : Nat) : Int) + 1 < ((xs.length : Nat) : Int)) := fun z => hc (decide_eq_true z)
      rw [labAt_end (by omega)] at q
      exact q
/-! the newest one -/
def spNewest : Sp := fun vs H Q _ => ∃ (r : Addr) (ms ls : List Nat), vs = [.ref r] ∧ Row H r ms ls ∧ 0 < ms.length ∧ ms.length ≤ 200 ∧ ∀ (i : Nat) (H' : Hp), i < ms.length → Same H H' → Q (num i) H'
theorem ok_newest (T : Txt K mg) (D : DefAt K mg "_law_newest" s__law_newest ["_law_row"]) : CalG P w K mg base 1 "_law_newest" spNewest := by
  refine D.cal sc__law_newest (fun vs H Q E h => ?_) (fun f cdv A outer s H vs Q E hG hr h => ?_)
  · obtain ⟨r, ms, ls, rfl, _⟩ := h
    rfl
  · obtain ⟨r, ms, ls, rfl, ⟨xs, e1, row⟩, hpos, few, q⟩ := h
    have h1 := row.lm
    have h2 := row.ll
    refine ⟨_, (pss_cons (ps_set (i := 1) sc__law_newest.nd rfl (Or.inr rfl) (pe_callB (cr_max rfl) (by rfl) T.b_max boot_max_ (pa_cons (pe_lc (own := [("_law_mark", 2), ("_law_label", 3)]) (g := gTup K 2 (gCons (gName 2) (gCons (gName 3) gNil))) (tt := tYes) rfl sc__law_newest.nd (pi_list (pv 0)) (blkOk_by (own := [("_law_mark", 2), ("_law_label", 3)]) (N := ["_law_row", "_law_newest_here", "_law_mark", "_law_label", "_law_at"]) (sc := defScope s__law_newest) (by decide +kernel)) (fun _ _ _ _ _ => by exact (pg_tup (by rfl) (pgs_cons (pg_name (i := 2) sc__law_newest.nd rfl (Or.inl rfl)) (pgs_cons (pg_name (i := 3) sc__law_newest.nd rfl (Or.inl rfl)) pgs_nil)))) (fun _ _ _ _ _ => pts_nil) (fun _ _ _ _ _ => (pv 2))) pa_nil)))
      (pss_one (ps_ret (pe_ix ix_list (pe_lc (own := [("_law_at", 4), ("_law_mark", 2), ("_law_label", 3)]) (g := gTup K 2 (gCons (gName 4) (gCons (gTup K 2 (gCons (gName 2) (gCons (gName 3) gNil))) gNil))) (tt := _) rfl sc__law_newest.nd (pi_enum (by rfl) T.b_enumerate (pa_cons (pv 0) pa_nil)) (blkOk_by (own := [("_law_at", 4), ("_law_mark", 2), ("_law_label", 3)]) (N := ["_law_row", "_law_newest_here", "_law_mark", "_law_label", "_law_at"]) (sc := defScope s__law_newest) (by decide +kernel)) (fun _ _ _ _ _ => by exact (pg_tup (by rfl) (pgs_cons (pg_name (i := 4) sc__law_newest.nd rfl (Or.inl rfl)) (pgs_cons (pg_tup (by rfl) (pgs_cons (pg_name (i := 2) sc__law_newest.nd rfl (Or.inl rfl)) (pgs_cons (pg_name (i := 3) sc__law_newest.nd rfl (Or.inl rfl)) pgs_nil))) pgs_nil)))) (fun _ _ _ _ _ => (pts_one (pt_cmpR op_eq (pv 2) (pv 1) (nomark _)))) (fun _ _ _ _ _ => (pv 4))) pe_int (fun _ _ => rfl))))), ?_⟩
    refine ⟨_, rfl, r, rfl, ⟨_, SqL.of e1⟩, fun D hD => ?_⟩
    refine lc_it (walk_list (xs := xs)) (fun k H' => Same H H' ∧ H' D = some (.lst ((ms.take k).map num))) ⟨same_new hD, upd_same⟩ (fun i H' _ hP => SqL.of (hP.1 _ _ e1)) (fun k x H1 H2 hk hP hY => ?_) (fun H1 hP => ?_)
    · obtain ⟨s1, d1⟩ := hP
      obtain ⟨rfl, hx⟩ := hY
      obtain ⟨m, l, t, g1, g2, g3, g4⟩ := row.get (i := k) (by omega)
      rw [g3] at hx
      cases (Option.some.inj hx)
      refine ⟨t, _, rfl, SqT.of (s1 _ _ g4), rfl, _, _, rfl, _, _, rfl, rfl, rfl, ?_⟩
      refine yesI ?_
      refine ⟨_, rfl, _, d1, ?_, fun c u z => ?_, ?_⟩
      · rw [List.length_map, List.length_take]
        exact small1000 (by omega)
      · rw [upd_ne (ne_of_none z hD)]
        exact s1 _ _ z
      · rw [upd_same, List.take_add_one, g1, List.map_append]
        rfl
    · obtain ⟨s1, d1⟩ := hP
      rw [List.take_of_length_le (by omega)] at d1
      have em : (ms.map num) = (ms.map fun n => ((n : Nat) : Int)).map V.int := by
        rw [List.map_map]
        rfl
      refine ⟨D, ms.map (fun n => ((n : Nat) : Int)), rfl, (by rw [← em]; exact SqL.of d1), (by rw [List.length_map]; exact hpos), fun mx hmx hle => ?_⟩
      obtain ⟨x, hx, rfl⟩ := List.mem_map.mp hmx
      have r1 := s1 _ _ e1
      refine ⟨_, rfl, r, _, rfl, SqL.of r1, fun D2 hD2 => ?_⟩
      refine lc_it (walk_enum (xs := xs)) (fun k H' => Same H1 H' ∧ ∃ ys : List Nat, H' D2 = some (.lst (ys.map num)) ∧ ys.length ≤ k ∧ (∀ y ∈ ys, y < ms.length) ∧ ((∃ j, j < k ∧ ms[j]? = some x) → 0 < ys.length)) ⟨same_new hD2, [], upd_same, by simp, by simp, by simp⟩ (fun i H' _ hP => SqL.of (hP.1 _ _ r1)) (fun k v H2 H3 hk hP hY => ?_) (fun H2 hP => ?_)
      · obtain ⟨s2, ys, d2, y1, y2, y3⟩ := hP
        obtain ⟨Tp, u, v', rfl, hT, rfl, hu, hv⟩ := hY
        replace hu : some (V.int (k : Nat)) = some u := hu
        replace hv : xs[k]? = some v' := hv
        cases (Option.some.inj hu)
        obtain ⟨m, l, t, g1, g2, g3, g4⟩ := row.get (i := k) (by omega)
        rw [g3] at hv
        cases (Option.some.inj hv)
        have g5 := kep (u := .tup [V.int (k : Nat), .ref t]) (s2 _ _ (s1 _ _ g4)) hT
        have d3 := kep (u := .tup [V.int (k : Nat), .ref t]) d2 hT
        have s3 : Same H1 (upd H2 Tp (.tup [V.int (k : Nat), .ref t])) := fun c z w => kep (s2 c z w) hT
        refine ⟨Tp, _, rfl, SqT.of upd_same, rfl, _, _, rfl, _, _, rfl, t, _, rfl, SqT.of g5, rfl, _, _, rfl, _, _, rfl, rfl, rfl, rfl, ?_⟩
        refine ⟨_, rfl, _, rfl, rfl, _, rfl, ?_⟩
        refine ite2 (fun hc => ?_) (fun hc => ?_)
        · refine ⟨_, rfl, _, d3, ?_, fun c u z => ?_, ys ++ [k], ?_, ?_, fun y hy => ?_, fun _ => by simp⟩
          · rw [List.length_map]
            exact small1000 (by omega)
          · rw [upd_ne (ne_of_none z hD2)]
            exact s3 _ _ z
          · rw [upd_same, List.map_append]
            rfl
          · rw [List.length_append]
            show ys.length + 1 ≤ k + 1
            omega
          · rcases List.mem_append.mp hy with hy | hy
            · exact y2 y hy
            · rw [List.mem_singleton.mp hy]
              omega
        · refine ⟨s3, ys, d3, by omega, y2, fun ⟨j, hj, hjx⟩ => ?_⟩
          by_cases z : j = k
          · subst z
            rw [g1] at hjx
            exact absurd (decide_eq_true (by rw [Option.some.inj hjx]; rfl)) hc
          · exact y3 ⟨j, by omega, hjx⟩
      · obtain ⟨s2, ys, d2, y1, y2, y3⟩ := hP
        obtain ⟨j, hj⟩ := List.getElem?_of_mem hx
        have hjl : j < ms.length := by
          by_cases z : j < ms.length
          · exact z
          · rw [List.getElem?_eq_none (by omega)] at hj
            cases hj
        have y4 := y3 ⟨j, by omega, hj⟩
        match ys, d2, y2, y4 with
        | y :: ys, d2, y2, _ =>
          exact ⟨D2, _, _, num y, rfl, rfl, SqL.of d2, (show atI _ ((0 : Nat) : Int) = _ from atI_nat rfl), q y _ (y2 y (List.mem_cons_self ..)) (s1.trans s2)⟩
end
end K13
set_option maxHeartbeats 1000000
namespace K13
open PySem PySem.Spec PyProof.Rows L2 Gd Gx
open C8 (clsBody Met pe_mt pe_mt0)
/-- the model of a law: its dict at d, its row at r -/
def Mod (H : Hp) (d r : Addr) (ms ls : List Nat) (gv ts : Nat) : Prop := ∃ kvs : List (Key × V), H d = some (.dK kvs) ∧ kvs.length = 3 ∧ valV kvs kr = some (.ref r) ∧ valV kvs kg = some (num gv) ∧ valV kvs km = some (num ts) ∧ Row H r ms ls
theorem Mod.kp {H H' : Hp} {d r : Addr} {ms ls : List Nat} {gv ts : Nat} (h : Mod H d r ms ls gv ts) (k : ∀ c u, (c = d ∨ c = r) → H c = some u → H' c = some u) (t : KT H H') : Mod H' d r ms ls gv ts := by
  obtain ⟨kvs, h1, h2, h3, h4, h5, xs, h6, h7⟩ := h
  exact ⟨kvs, k _ _ (.inl rfl) h1, h2, h3, h4, h5, xs, k _ _ (.inr rfl) h6, h7.kp t⟩
theorem Mod.same {H H' : Hp} {d r : Addr} {ms ls : List Nat} {gv ts : Nat} (h : Mod H d r ms ls gv ts) (s : Same H H') : Mod H' d r ms ls gv ts := h.kp (fun c u _ z => s c u z) (KT.of s)
theorem cut_lo {xs : List V} {j : Int} {k : Nat} (e : j = (k : Nat)) (h : k ≤ xs.length) : cutV xs none (some j) = xs.take k := by
  subst e
  unfold cutV
  rw [HT.sIx_none, HT.sIx_nat, List.drop_zero]
  congr 1
  omega
theorem cut_hi {xs : List V} {j : Int} {k : Nat} (e : j = (k : Nat)) (h : k ≤ xs.length) : cutV xs (some j) none = xs.drop k := by
  subst e
  unfold cutV
  rw [HT.sIx_none, HT.sIx_nat, show min k xs.length = k from by omega, List.take_of_length_le (by rw [List.length_drop]; omega)]
theorem inl_end {α : Type} (l : List α) (x : α) : inl l l.length x = l ++ [x] := by
  unfold inl
  rw [List.take_length, List.drop_length, List.append_nil]
theorem RowX.snoc {H : Hp} {xs : List V} {ms ls : List Nat} (h : RowX H xs ms ls) {m l t : Nat} (e : H t = some (.tup [num m, num l])) : RowX H (xs ++ [.ref t]) (ms ++ [m]) (ls ++ [l]) := by
  have z := h.inl (k := ms.length) (Nat.le_refl _) e
  rw [inl_end] at z
  rw [← h.lm, inl_end] at z
  rw [h.lm, ← h.ll, inl_end] at z
  exact z
theorem RowX.step {H : Hp} {ys : List V} {ms ls : List Nat} {k m l t : Nat} (h : RowX H ys (ms.take k) (ls.take k)) (g1 : ms[k]? = some m) (g2 : ls[k]? = some l) (e : H t = some (.tup [num m, num l])) : RowX H (ys ++ [.ref t]) (ms.take (k + 1)) (ls.take (k + 1)) := by
  rw [List.take_add_one, List.take_add_one, g1, g2]
  exact h.snoc e
section
variable {P : Program} {w : World} {K : PySem.W.Frag} {mg : Str → Option Value} {base : Heap} {C : Addr}
def spPut : Sp := fun vs H Q _ => ∃ (d r : Addr) (ms ls : List Nat) (gv ts i : Nat), vs = [.ref d, num i] ∧ Mod H d r ms ls gv ts ∧ i < ms.length ∧ ms.length ≤ 200 ∧
  ∀ (r' : Addr) (H' : Hp), Mod H' d r' (inl ms (i + 1) gv) (inl (readyL ls i) (i + 1) (midL ls i)) (gv + 1) (readyT ls i ts) → H r' = none → (∀ c u, c ≠ d → H c = some u → H' c = some u) → Q .non H'
theorem ok_put (T : Txt K mg) (c__law_end : CalG P w K mg base 1 "_law_end" spEnd) (D : DefAt K mg "_law_put" s__law_put ["_law_model", "_law_at"]) : CalG P w K mg base 2 "_law_put" spPut := by
  refine D.cal sc__law_put (fun vs H Q E h => ?_) (fun f cdv A outer s H vs Q E hG hr h => ?_)
  · obtain ⟨d, r, ms, ls, gv, ts, i, rfl, _⟩ := h
    rfl
  · obtain ⟨d, r, ms, ls, gv, ts, i, rfl, ⟨kvs, h1, h2, h3, h4, h5, xs, e1, row⟩, hi, few, q⟩ := h
    have hl1 := row.lm
    have hl2 := row.ll
    obtain ⟨m0, l0, t0, g1, g2, g3, g4⟩ := row.get hi
    refine ⟨_, (pss_cons (ps_set (i := 2) sc__law_put.nd rfl (Or.inl rfl) (pe_dget (hu_of hr) (pv 0) pe_str (fun _ _ => rfl)))
      (pss_cons (ps_if (pt_cmpR op_lt (pe_op op_sub (pe_g c__law_end hG (hr.mono (by decide)) (by rfl) (pa_cons (pv 2) (pa_cons (pv 1) pa_nil))) (pe_ix ix_tup (pe_ix ix_list (pv 2) (pv 1) (fun _ _ => rfl)) pe_int (fun _ _ => rfl))) pe_int (nomark _))
          (pss_cons (ps_set (i := 3) sc__law_put.nd rfl (Or.inr rfl) (pe_op op_fdiv pe_int (pe_callB call_len (by rfl) T.b_len boot_len_ (pa_cons (pv 2) pa_nil))))
          (pss_cons (ps_setLc (i := 2) (own := [("_law_k", 5), ("_law_mark", 6), ("_law_label", 4)]) (g := gTup K 2 (gCons (gName 5) (gCons (gTup K 2 (gCons (gName 6) (gCons (gName 4) gNil))) gNil))) (tt := tYes) rfl sc__law_put.nd rfl rfl (sw_true rfl rfl rfl (by decide +kernel)) (pi_enum (by rfl) T.b_enumerate (pa_cons (pv 2) pa_nil)) (blkOk_by (own := [("_law_k", 5), ("_law_mark", 6), ("_law_label", 4)]) (N := ["_law_model", "_law_at", "_law_row", "_law_step_here", "_law_label", "_law_k", "_law_mark"]) (sc := defScope s__law_put) (by decide +kernel)) (fun _ _ _ _ _ => by exact (pg_tup (by rfl) (pgs_cons (pg_name (i := 5) sc__law_put.nd rfl (Or.inl rfl)) (pgs_cons (pg_tup (by rfl) (pgs_cons (pg_name (i := 6) sc__law_put.nd rfl (Or.inl rfl)) (pgs_cons (pg_name (i := 4) sc__law_put.nd rfl (Or.inl rfl)) pgs_nil))) pgs_nil)))) (fun _ _ _ _ _ => pts_nil) (fun _ _ _ _ _ => (pe_tup (pa_cons (pv 6) (pa_cons (pe_op op_mul (pv 5) (pv 3)) pa_nil)))))
          (pss_one (ps_dput (hu_of hr) (pv 0) pe_str (pe_op op_add (pe_dget (hu_of hr) (pv 0) pe_str (fun _ _ => rfl)) pe_int) rfl)))) pss_nil)
      (pss_cons (ps_set (i := 4) sc__law_put.nd rfl (Or.inl rfl) (pe_op op_fdiv (pe_op op_add (pe_ix ix_tup (pe_ix ix_list (pv 2) (pv 1) (fun _ _ => rfl)) pe_int (fun _ _ => rfl)) (pe_g c__law_end hG (hr.mono (by decide)) (by rfl) (pa_cons (pv 2) (pa_cons (pv 1) pa_nil)))) pe_int))
      (pss_cons (ps_dput (hu_of hr) (pv 0) pe_str (pe_op op_cat (pe_op op_cat (pe_slice sl_list (pv 2) po_none (po_some (pe_op op_add (pv 1) pe_int))) (pe_lst (pa_cons (pe_tup (pa_cons (pe_dget (hu_of hr) (pv 0) pe_str (fun _ _ => rfl)) (pa_cons (pv 4) pa_nil))) pa_nil))) (pe_slice sl_list (pv 2) (po_some (pe_op op_add (pv 1) pe_int)) po_none)) rfl)
      (pss_one (ps_dput (hu_of hr) (pv 0) pe_str (pe_op op_add (pe_dget (hu_of hr) (pv 0) pe_str (fun _ _ => rfl)) pe_int) rfl)))))), ?_⟩
    refine ⟨_, rfl, d, _, rfl, dgs h1 h3, ?_⟩
    refine ⟨_, rfl, _, rfl, r, ms, ls, i, rfl, ⟨xs, e1, row⟩, hi, ?_⟩
    refine ⟨_, rfl, _, rfl, r, _, _, _, rfl, rfl, SqL.of e1, atI_nat g3, t0, _, _, num l0, rfl, rfl, SqT.of g4, rfl, _, _, rfl, rfl, _, _, rfl, rfl, _, rfl, ?_⟩
    have hla : labAt ls i = l0 := labAt_in g2
    refine ite2 (fun hc => ?_) (fun hc => ?_)
    focus
      have hc : ((labAt ls (i + 1) : Nat) : Int) - ((l0 : Nat) : Int) < 2 := of_decide_eq_true hc
      have hg : ¬ gap ls i := by
        unfold gap
        omega
      refine ⟨_, rfl, .ref r, _, rfl, .inl ⟨_, SqL.of e1, rfl⟩, _, _, rfl, rfl, ⟨by omega, by omega⟩, ?_⟩
      refine ⟨_, rfl, r, _, rfl, SqL.of e1, fun D hD => ?_⟩
      refine lc_it (walk_enum (xs := xs)) (fun k H' => Same H H' ∧ ∃ ys, H' D = some (.lst ys) ∧ RowX H' ys (ms.take k) ((anewL ms.length).take k)) ⟨same_new hD, [], upd_same, ⟨rfl, rfl, fun a b c z => by cases z⟩⟩ (fun k H' _ hP => SqL.of (hP.1 _ _ e1)) (fun k v H2 H3 hk hP hY => ?_) (fun H2 hP => ?_)
      · obtain ⟨s2, ys, d2, rw2⟩ := hP
        obtain ⟨Tp, u, v', rfl, hT, rfl, hu, hv⟩ := hY
        replace hu : some (V.int (k : Nat)) = some u := hu
        replace hv : xs[k]? = some v' := hv
        cases (Option.some.inj hu)
        obtain ⟨m, l, t, a1, a2, a3, a4⟩ := row.get (i := k) (by omega)
        rw [a3] at hv
        cases (Option.some.inj hv)
        have g5 := kep (u := .tup [V.int (k : Nat), .ref t]) (s2 _ _ a4) hT
        have d3 := kep (u := .tup [V.int (k : Nat), .ref t]) d2 hT
        have s23 : Same H2 (upd H2 Tp (.tup [V.int (k : Nat), .ref t])) := same_new hT
        have f3 : (upd H2 Tp (.tup [V.int (k : Nat), .ref t])) Tp = some (.tup [V.int (k : Nat), .ref t]) := upd_same
        generalize upd H2 Tp (.tup [V.int (k : Nat), .ref t]) = H3 at *
        refine ⟨Tp, _, rfl, SqT.of f3, rfl, _, _, rfl, _, _, rfl, t, _, rfl, SqT.of g5, rfl, _, _, rfl, _, _, rfl, rfl, rfl, rfl, ?_⟩
        refine yesI ?_
        refine ⟨_, rfl, _, rfl, _, rfl, _, _, rfl, rfl, .inl ⟨by omega, by omega⟩, (by show 2 ≤ sizeLine; decide), fun t2 ht2 => ?_⟩
        have el : V.int (((k : Nat) : Int) * (1024 / ((xs.length : Nat) : Int))) = num (k * (1024 / ms.length)) := by
          rw [hl1]
          show V.int _ = V.int _
          congr 1
        have s34 := same_new (o := .tup [num m, V.int (((k : Nat) : Int) * (1024 / ((xs.length : Nat) : Int)))]) ht2
        have f4 : (upd H3 t2 (.tup [num m, V.int (((k : Nat) : Int) * (1024 / ((xs.length : Nat) : Int)))])) t2 = some (.tup [num m, num (k * (1024 / ms.length))]) := by
          rw [upd_same, el]
        refine ⟨_, s34 _ _ d3, ?_, ?_⟩
        · have := rw2.lm
          rw [List.length_take] at this
          exact small1000 (by omega)
        · have s4 : Same H (upd H3 t2 (.tup [num m, V.int (((k : Nat) : Int) * (1024 / ((xs.length : Nat) : Int)))])) := (s2.trans s23).trans s34
          have rw4 := rw2.kp (KT.of (s23.trans s34))
          have d4 := s34 _ _ d3
          generalize upd H3 t2 (.tup [num m, V.int (((k : Nat) : Int) * (1024 / ((xs.length : Nat) : Int)))]) = H4 at *
          refine ⟨fun c u z => ?_, _, upd_same, (rw4.step a1 (anew_at (by omega)) f4).kp fun c u z => ?_⟩
          · rw [upd_ne (ne_of_none z hD)]
            exact s4 _ _ z
          · rw [upd_ne (fun e : c = D => by rw [e, d4] at z; cases z)]
            exact z
      obtain ⟨s2, ys, d2, rw2⟩ := hP
      rw [List.take_of_length_le (by omega), List.take_of_length_le (by rw [anew_len]; omega)] at rw2
      have b1 := s2 _ _ h1
      refine ⟨_, rfl, d, _, rfl, dgs b1 h5, _, _, rfl, rfl, _, rfl, d, _, rfl, DPut.k (k := km) b1 (small1000 (by omega)), ?_⟩
      have dD : D ≠ d := (ne_of_none h1 hD).symm
      have v1 : valV (putK kvs km (.int ((ts : Int) + 1))) kr = some (.ref r) := by rw [valV_put, if_neg (by decide)]; exact h3
      have v2 : valV (putK kvs km (.int ((ts : Int) + 1))) kg = some (num gv) := by rw [valV_put, if_neg (by decide)]; exact h4
      have v3 : valV (putK kvs km (.int ((ts : Int) + 1))) km = some (num (readyT ls i ts)) := by
        rw [valV_put, if_pos rfl]
        unfold readyT
        rw [if_neg hg]
        rfl
      have v4 : (putK kvs km (.int ((ts : Int) + 1))).length = 3 := (putK_old h5).trans h2
      have er : readyL ls i = anewL ms.length := by
        unfold readyL
        rw [if_neg hg, hl2]
      rw [← er] at rw2
      have w1 : (upd H2 d (.dK (putK kvs km (.int ((ts : Int) + 1))))) d = some (.dK (putK kvs km (.int ((ts : Int) + 1)))) := upd_same
      have w2 : (upd H2 d (.dK (putK kvs km (.int ((ts : Int) + 1))))) D = some (.lst ys) := by rw [upd_ne dD]; exact d2
      have w3 := rw2.kp (H' := upd H2 d (.dK (putK kvs km (.int ((ts : Int) + 1))))) fun c u z => by
        rw [upd_ne (fun e : c = d => by rw [e, b1] at z; cases z)]
        exact z
      have w4 : ∀ c u, c ≠ d → H c = some u → (upd H2 d (.dK (putK kvs km (.int ((ts : Int) + 1))))) c = some u := fun c u hc z => by
        rw [upd_ne hc]
        exact s2 _ _ z
      generalize upd H2 d (.dK (putK kvs km (.int ((ts : Int) + 1)))) = H9 at *
      generalize putK kvs km (.int ((ts : Int) + 1)) = kv9 at *
      clear hc
    rotate_left
    focus
      have hc : ¬ (((labAt ls (i + 1) : Nat) : Int) - ((l0 : Nat) : Int) < 2) := fun z => hc (decide_eq_true z)
      have hg : gap ls i := by
        unfold gap
        omega
      obtain ⟨D, rfl⟩ : ∃ X, X = r := ⟨_, rfl⟩
      have w1 := h1
      have w2 := e1
      have w3 : RowX H xs ms (readyL ls i) := by
        unfold readyL
        rw [if_pos hg]
        exact row
      have w4 : ∀ c u, c ≠ d → H c = some u → H c = some u := fun c u _ z => z
      have v1 := h3
      have v2 := h4
      have v3 : valV kvs km = some (num (readyT ls i ts)) := by
        unfold readyT
        rw [if_pos hg]
        exact h5
      have v4 := h2
      obtain ⟨ys, hys⟩ : ∃ X, X = xs := ⟨_, rfl⟩
      rw [← hys] at w2 w3
      obtain ⟨H9, hH9⟩ : ∃ X, X = H := ⟨_, rfl⟩
      rw [← hH9]
      rw [← hH9] at w1 w2 w3
      replace w4 : ∀ c u, c ≠ d → H c = some u → H9 c = some u := fun c u _ z => hH9 ▸ z
      obtain ⟨kv9, hk9⟩ : ∃ X, X = kvs := ⟨_, rfl⟩
      rw [← hk9] at w1 v1 v2 v3 v4
      clear hc
    all_goals
      obtain ⟨m, l, t, a1, a2, a3, a4⟩ := w3.get hi
      have ha : labAt (readyL ls i) i = l := labAt_in a2
      have hb : midL ls i = (l + labAt (readyL ls i) (i + 1)) / 2 := by
        unfold midL
        rw [ha]
      have y1 := w3.lm
      refine ⟨_, rfl, _, rfl, D, _, _, _, rfl, rfl, SqL.of w2, atI_nat a3, t, _, _, num l, rfl, rfl, SqT.of a4, rfl, _, rfl, _, rfl, D, ms, _, i, rfl, ⟨ys, w2, w3⟩, hi, _, _, rfl, rfl, _, _, rfl, rfl, ⟨by omega, by omega⟩, ?_⟩
      have em : V.int ((((l : Nat) : Int) + ((labAt (readyL ls i) (i + 1) : Nat) : Int)) / 2) = num (midL ls i) := by
        rw [hb]
        show V.int _ = V.int _
        congr 1
      refine ⟨_, rfl, _, rfl, _, _, rfl, rfl, _, rfl, D, _, rfl, SqL.of w2, fun p1 hp1 => ?_⟩
      rw [cut_lo (k := i + 1) (by omega) (by omega)]
      have s1 := same_new (o := .lst (ys.take (i + 1))) hp1
      have c1 : (upd H9 p1 (.lst (ys.take (i + 1)))) p1 = some (.lst (ys.take (i + 1))) := upd_same
      generalize upd H9 p1 (.lst (ys.take (i + 1))) = A1 at *
      refine ⟨_, rfl, d, _, rfl, dgs (s1 _ _ w1) v2, _, rfl, (by show 2 ≤ sizeLine; decide), fun t1 ht1 => ⟨(by show 1 ≤ sizeLine; decide), fun p2 hp2 => ?_⟩⟩
      have s2 := same_new (o := .tup [num gv, V.int ((((l : Nat) : Int) + ((labAt (readyL ls i) (i + 1) : Nat) : Int)) / 2)]) ht1
      have c2 : (upd A1 t1 (.tup [num gv, V.int ((((l : Nat) : Int) + ((labAt (readyL ls i) (i + 1) : Nat) : Int)) / 2)])) t1 = some (.tup [num gv, num (midL ls i)]) := by rw [upd_same, em]
      generalize upd A1 t1 (.tup [num gv, V.int ((((l : Nat) : Int) + ((labAt (readyL ls i) (i + 1) : Nat) : Int)) / 2)]) = A2 at *
      have s3 := same_new (o := .lst [.ref t1]) hp2
      have c3 : (upd A2 p2 (.lst [.ref t1])) p2 = some (.lst [.ref t1]) := upd_same
      generalize upd A2 p2 (.lst [.ref t1]) = A3 at *
      refine ⟨p1, p2, _, _, rfl, rfl, s3 _ _ (s2 _ _ c1), c3, ?_, fun p3 hp3 => ?_⟩
      · rw [List.length_take]
        refine small1000 ?_
        show min (i + 1) ys.length ≤ 1000
        omega
      have s4 := same_new (o := .lst (ys.take (i + 1) ++ [.ref t1])) hp3
      have c4 : (upd A3 p3 (.lst (ys.take (i + 1) ++ [.ref t1]))) p3 = some (.lst (ys.take (i + 1) ++ [.ref t1])) := upd_same
      generalize upd A3 p3 (.lst (ys.take (i + 1) ++ [.ref t1])) = A4 at *
      refine ⟨_, rfl, _, rfl, _, _, rfl, rfl, _, rfl, D, _, rfl, SqL.of (s4 _ _ (s3 _ _ (s2 _ _ (s1 _ _ w2)))), fun p4 hp4 => ?_⟩
      rw [cut_hi (k := i + 1) (by omega) (by omega)]
      have s5 := same_new (o := .lst (ys.drop (i + 1))) hp4
      have c5 : (upd A4 p4 (.lst (ys.drop (i + 1)))) p4 = some (.lst (ys.drop (i + 1))) := upd_same
      generalize upd A4 p4 (.lst (ys.drop (i + 1))) = A5 at *
      refine ⟨p3, p4, _, _, rfl, rfl, s5 _ _ c4, c5, ?_, fun p5 hp5 => ?_⟩
      · rw [List.length_append, List.length_take, List.length_drop]
        refine Nat.le_of_lt (small1000 ?_)
        show min (i + 1) ys.length + 1 + (ys.length - (i + 1)) ≤ 1000
        omega
      have s6 := same_new (o := .lst (ys.take (i + 1) ++ [.ref t1] ++ ys.drop (i + 1))) hp5
      have c6 : (upd A5 p5 (.lst (ys.take (i + 1) ++ [.ref t1] ++ ys.drop (i + 1)))) p5 = some (.lst (inl ys (i + 1) (.ref t1))) := upd_same
      generalize upd A5 p5 (.lst (ys.take (i + 1) ++ [.ref t1] ++ ys.drop (i + 1))) = A6 at *
      have s95 : Same H9 A5 := (((s1.trans s2).trans s3).trans s4).trans s5
      have s96 : Same H9 A6 := s95.trans s6
      have n9 : H9 p5 = none := none_of' s95 hp5
      have d5 : p5 ≠ d := (ne_of_none w1 n9).symm
      have z1 := s96 _ _ w1
      refine ⟨_, rfl, d, _, rfl, DPut.k (k := kr) z1 (small1000 (by omega)), ?_⟩
      have u1 : valV (putK kv9 kr (.ref p5)) kr = some (.ref p5) := by rw [valV_put, if_pos rfl]
      have u2 : valV (putK kv9 kr (.ref p5)) kg = some (num gv) := by rw [valV_put, if_neg (by decide)]; exact v2
      have u3 : valV (putK kv9 kr (.ref p5)) km = some (num (readyT ls i ts)) := by rw [valV_put, if_neg (by decide)]; exact v3
      have u4 : (putK kv9 kr (.ref p5)).length = 3 := (putK_old v1).trans v4
      refine ⟨_, rfl, d, _, rfl, dgs upd_same u2, _, _, rfl, rfl, _, rfl, d, _, rfl, DPut.k (k := kg) upd_same (small1000 (by omega)), ?_⟩
      have rowf : RowX A6 (inl ys (i + 1) (.ref t1)) (inl ms (i + 1) gv) (inl (readyL ls i) (i + 1) (midL ls i)) :=
        (w3.kp (KT.of s96)).inl (by omega) (s6 _ _ (s5 _ _ (s4 _ _ (s3 _ _ c2))))
      refine q p5 _ ⟨_, upd_same, ?_, ?_, ?_, ?_, _, ?_, rowf.kp fun c u z => ?_⟩ ?_ fun c u hc z => ?_
      · rw [putK_old u2]
        exact u4
      · rw [valV_put, if_neg (by decide)]
        exact u1
      · rw [valV_put, if_pos rfl]
        rfl
      · rw [valV_put, if_neg (by decide)]
        exact u3
      · rw [upd_ne d5, upd_ne d5]
        exact c6
      · have hcd : c ≠ d := fun e => by rw [e, z1] at z; cases z
        rw [upd_ne hcd, upd_ne hcd]
        exact z
      · cases hx : H p5 with
        | none => rfl
        | some u =>
          have := w4 p5 u d5 hx
          rw [n9] at this
          cases this
      · rw [upd_ne hc, upd_ne hc]
        exact s96 _ _ (w4 c u hc z)
end
end K13
set_option maxHeartbeats 1000000
namespace K13
open PySem PySem.Spec PyProof.Rows L2 Gd Gx
open C8 (clsBody Met pe_mt pe_mt0)
section
variable {P : Program} {w : World} {K : PySem.W.Frag} {mg : Str → Option Value} {base : Heap} {C CT fT : Addr}
theorem MAt.metX {m qual : Str} {st : Stmt} {N ps : List Str} {k : Nat} {sp : Sp} (M : MAt K C m qual st ps) (cl : Cls K C) (S : FnScope N ps (defScope st))
    (ar : ∀ vs H Q E, sp vs H Q E → vs.length = ps.length)
    (bd : ∀ (f : Addr) (cdv : Value) (A : Around) (outer : List Env) (s : Shared) (H : Hp) (vs : List V) (Q : VK) (E : XK), Room k (A.deeper (envOfC qual (defScope st) s.heap.objs.size f cdv)) → sp vs H Q E →
      ∃ t, PSs (cxOf (L2.CX P w) P w K mg base N qual (defScope st) f cdv A outer s H E) (defBody st) t ∧ t { nx := fun _ H' => Q .non H', rt := Q } (start N vs) H) : MetX P w K mg base (k + 1) C m sp := by
  obtain ⟨f, fd, F, me, b⟩ := M.ex
  exact ⟨f, fd, ps, cl, me, F.okX S ar (bd f), b⟩
/-- what the written part says of TooMany -/
structure ErrT (P : Program) (K : PySem.W.Frag) (mg : Str → Option Value) (CT fT : Addr) : Prop where
  e_TooMany : Gc.ErrTxt P K CT fT "TooMany.__init__" "there would be too many"
  g_TooMany : mg "TooMany" = some (.ref CT)
  m_TooMany : PySem.W.exmOne K (.ref CT) (.ref CT) = some true
def spFull (CT C : Addr) : Sp := fun vs H Q E => ∃ (N : Addr → Prop) (o : Addr) (ms ls : List Nat) (gv ts i k : Nat), vs = [.ref o, num k] ∧ OrdA N H o C ms ls gv ts ∧ ms[i]? = some k ∧ ms.length = 200 ∧ ∀ a, H a = none → E (.ref CT) (some a) (upd H a (.xd [("count", .int 201)]))
theorem ok_full (T : Txt K mg) (R : ErrT P K mg CT fT) (OC : OrdC K C) (m_many : Met P w K mg base 1 C "many" (spMany C) []) (m__need_mark : Met P w K mg base 2 C "_need_mark" (spNeed C) []) (m__label_at : Met P w K mg base 2 C "_label_at" (spLabAt C) []) (m__label_anew : Met P w K mg base 2 C "_label_anew" (spAnew C) [])
    (M : MAt K C "behind" "Order.behind" s_Order_behind ["self", "mark"]) : MetX P w K mg base 4 C "behind" (spFull CT C) := by
  refine M.metX OC.cl sc_Order_behind (fun vs H Q E h => ?_) (fun f cdv A outer s H vs Q E hr h => ?_)
  · obtain ⟨N, o, ms, ls, gv, ts, i, k, rfl, _⟩ := h
    rfl
  · obtain ⟨N, o, ms, ls, gv, ts, i, k, rfl, r, hk, hf, q⟩ := h
    obtain ⟨dx, fs, e1, nl⟩ := r.ins
    refine ⟨_, (pss_cons (ps_expr (pe_mt m__need_mark hr (by decide) (pv 0) (pa_cons (pv 1) pa_nil)))
      (pss_cons (ps_if (pt_cmpR op_ge (pe_mt0 m_many hr (by decide) (pv 0)) (pe_gi rfl T.g_MOST_MARKS) (nomark _))
          (pss_one (Gc.ps_raiseE rfl R.e_TooMany R.g_TooMany hr (takes_of rfl rfl rfl rfl) (by exact (pa_cons (pe_op op_add (pe_mt0 m_many hr (by decide) (pv 0)) pe_int) pa_nil)) (by rfl))) pss_nil)
      (pss_cons (ps_set (i := 2) sc_Order_behind.nd rfl (Or.inl rfl) (pe_bm PySem.F.plainAttrs_list PySem.F.slot_list_index PySem.F.type_list_index mt_index (pe_fld (pv 0) rfl) (pa_cons (pv 1) pa_nil)))
      (pss_cons (ps_if (pt_cmpR op_lt (pe_op op_sub (pe_mt m__label_at hr (by decide) (pv 0) (pa_cons (pe_op op_add (pv 2) pe_int) pa_nil)) (pe_mt m__label_at hr (by decide) (pv 0) (pa_cons (pv 2) pa_nil))) pe_int (nomark _))
          (pss_one (ps_expr (pe_mt0 m__label_anew hr (by decide) (pv 0)))) pss_nil)
      (pss_cons (ps_set (i := 3) sc_Order_behind.nd rfl (Or.inl rfl) (pe_fld (pv 0) rfl))
      (pss_cons (ps_fldaug (pv 0) pe_int in_add)
      (pss_cons (ps_dput (hu_of hr) (pe_fld (pv 0) rfl) (pv 3) (pe_op op_fdiv (pe_op op_add (pe_mt m__label_at hr (by decide) (pv 0) (pa_cons (pv 2) pa_nil)) (pe_mt m__label_at hr (by decide) (pv 0) (pa_cons (pe_op op_add (pv 2) pe_int) pa_nil))) pe_int) rfl)
      (pss_cons (ps_expr (pe_bm PySem.F.plainAttrs_list PySem.F.slot_list_insert PySem.F.type_list_insert mt_insert (pe_fld (pv 0) rfl) (pa_cons (pe_op op_add (pv 2) pe_int) (pa_cons (pv 3) pa_nil))))
      (pss_one (ps_ret (pv 3))))))))))), ?_⟩
    refine ⟨_, rfl, o, dx, fs, rfl, e1, nl _ (by decide), _, rfl, N, o, ms, ls, gv, ts, i, k, rfl, r, hk, ?_⟩
    refine ⟨_, rfl, o, dx, fs, rfl, e1, nl _ (by decide), N, o, ms, ls, gv, ts, rfl, r, _, _, rfl, rfl, _, rfl, ?_⟩
    rw [hf, show decide ((200 : Int) ≤ ((200 : Nat) : Int)) = true from by decide]
    refine iteT ⟨_, rfl, o, dx, fs, rfl, e1, nl _ (by decide), N, o, ms, ls, gv, ts, rfl, r, _, _, rfl, rfl, .int 201, ?_, q⟩
    rw [hf]
    rfl
def spTimes (C : Addr) : Sp := fun vs H Q _ => ∃ (N : Addr → Prop) (o : Addr) (ms ls : List Nat) (gv ts : Nat), vs = [.ref o] ∧ OrdA N H o C ms ls gv ts ∧ Q (num ts) H
theorem ok_times (T : Txt K mg) (OC : OrdC K C) (M : MAt K C "anew" "Order.anew" s_Order_anew ["self"]) : Met P w K mg base 1 C "anew" (spTimes C) [] := by
  refine M.met OC.cl sc_Order_anew (fun vs H Q E h => ?_) (fun f cdv A outer s H vs Q E hr h => ?_)
  · obtain ⟨N, o, ms, ls, gv, ts, rfl, _⟩ := h
    rfl
  · obtain ⟨N, o, ms, ls, gv, ts, rfl, r, q⟩ := h
    obtain ⟨dx, m, d, fs, kvs, e1, l1, l2, l3, l4, nl, e2, e3, dc, lf, No, Nm, Nd⟩ := r.ex
    refine ⟨_, (pss_one (ps_ret (pe_fld (pv 0) rfl))), ?_⟩
    exact ⟨_, rfl, o, C, dx, fs, num ts, rfl, e1, OC.cl, OC.n_times, l4, q⟩
def spRight (C : Addr) : Sp := fun vs H Q _ => ∃ (N : Addr → Prop) (o d r : Addr) (ms ls : List Nat) (gv ts : Nat), vs = [.ref o, .ref d] ∧ OrdA N H o C ms ls gv ts ∧ Mod H d r ms ls gv ts ∧ gv ≤ 1000 ∧ ts ≤ 1000 ∧ ∀ H', Same H H' → Q (.bl true) H'
theorem ok_right (T : Txt K mg) (m_label : Met P w K mg base 3 C "label" (spLabel C) []) (m_anew : Met P w K mg base 1 C "anew" (spTimes C) []) (m_marks : Met P w K mg base 1 C "marks" (spMarks C) [])
    (D : DefAt K mg "_law_right" s__law_right ["_law_order", "_law_model"]) : CalG P w K mg base 4 "_law_right" (spRight C) := by
  refine D.cal sc__law_right (fun vs H Q E h => ?_) (fun f cdv A outer s H vs Q E hG hr h => ?_)
  · obtain ⟨N, o, d, r, ms, ls, gv, ts, rfl, _⟩ := h
    rfl
  · obtain ⟨N, o, d, r, ms, ls, gv, ts, rfl, ord, ⟨kvs, h1, h2, h3, h4, h5, xs, e1, row⟩, hgv, hts, q⟩ := h
    obtain ⟨dx, fs, x1, nl⟩ := ord.ins
    have okr := rowOk ord.ok hgv
    have okt : Okd (.int (ts : Nat)) 50 0 := numOk (by omega)
    have few := ord.ok.few
    have hl2 := row.ll
    refine ⟨_, (pss_cons (ps_setLc (i := 2) (own := [("_law_mark", 3)]) (g := gName 3) (tt := tYes) rfl sc__law_right.nd rfl rfl (sw_true rfl rfl rfl (by decide +kernel)) (pi_list (pe_mt0 m_marks hr (by decide) (pv 0))) (blkOk_by (own := [("_law_mark", 3)]) (N := ["_law_order", "_law_model", "_law_found", "_law_mark"]) (sc := defScope s__law_right) (by decide +kernel)) (fun _ _ _ _ _ => pg_name (i := 3) sc__law_right.nd rfl (Or.inl rfl)) (fun _ _ _ _ _ => pts_nil) (fun _ _ _ _ _ => (pe_tup (pa_cons (pv 3) (pa_cons (pe_mt m_label hr (by decide) (pv 0) (pa_cons (pv 3) pa_nil)) pa_nil)))))
      (pss_one (ps_ret (pe_and (pe_cmpR op_eq (pe_callB (call_repr hG (hu64 hr)) (by rfl) T.b_repr boot_repr_ (pa_cons (pv 2) pa_nil)) (pe_callB (call_repr hG (hu64 hr)) (by rfl) T.b_repr boot_repr_ (pa_cons (pe_dget (hu_of hr) (pv 1) pe_str (fun _ _ => rfl)) pa_nil)) (nomark _)) (pe_one (pe_cmpR op_eq (pe_callB (call_repr hG (hu64 hr)) (by rfl) T.b_repr boot_repr_ (pa_cons (pe_mt0 m_anew hr (by decide) (pv 0)) pa_nil)) (pe_callB (call_repr hG (hu64 hr)) (by rfl) T.b_repr boot_repr_ (pa_cons (pe_dget (hu_of hr) (pv 1) pe_str (fun _ _ => rfl)) pa_nil)) (nomark _))))))), ?_⟩
    refine ⟨_, rfl, o, dx, fs, rfl, x1, nl _ (by decide), N, o, ms, ls, gv, ts, rfl, ord, fun p H1 n1 s1 hp => ⟨p, rfl, ⟨_, SqL.of hp⟩, fun L hL => ?_⟩⟩
    refine lc_it (walk_list (xs := ms.map num)) (fun k H' => Same H1 H' ∧ ∃ ys, H' L = some (.lst ys) ∧ RowX H' ys (ms.take k) (ls.take k)) ⟨same_new hL, [], upd_same, ⟨rfl, rfl, fun a b c z => by cases z⟩⟩ (fun k H' _ hP => SqL.of (hP.1 _ _ hp)) (fun k x H2 H3 hk hP hY => ?_) (fun H2 hP => ?_)
    · obtain ⟨s2, ys, d2, rw2⟩ := hP
      obtain ⟨rfl, hx⟩ := hY
      rw [List.length_map] at hk
      obtain ⟨m, l, t, a1, a2, a3, a4⟩ := row.get hk
      rw [List.getElem?_map, a1] at hx
      cases (show some (num m) = some x from hx)
      refine ⟨rfl, yesI ?_⟩
      have s02 := s1.trans s2
      refine ⟨_, rfl, _, rfl, o, dx, fs, rfl, s02 _ _ x1, nl _ (by decide), _, rfl, N, o, ms, ls, gv, ts, k, m, l, rfl, ord.kp (fun c u _ z => s02 c u z), a1, a2, (by show 2 ≤ sizeLine; decide), fun t2 ht2 => ?_⟩
      have s23 := same_new (o := .tup [num m, num l]) ht2
      have f3 : (upd H3 t2 (.tup [num m, num l])) t2 = some (.tup [num m, num l]) := upd_same
      refine ⟨_, s23 _ _ d2, ?_, ?_⟩
      · have := rw2.lm
        rw [List.length_take] at this
        exact small1000 (by omega)
      · have rw4 := rw2.kp (KT.of s23)
        have d4 := s23 _ _ d2
        have s4 := s2.trans s23
        generalize upd H3 t2 (.tup [num m, num l]) = H4 at *
        refine ⟨fun c u z => ?_, _, upd_same, (rw4.step a1 a2 f3).kp fun c u z => ?_⟩
        · rw [upd_ne (ne_of_none z hL)]
          exact s4 _ _ z
        · rw [upd_ne (fun e : c = L => by rw [e, d4] at z; cases z)]
          exact z
    obtain ⟨s2, ys, d2, rw2⟩ := hP
    rw [List.length_map, List.take_of_length_le (Nat.le_refl _), List.take_of_length_le (by omega)] at rw2
    have s02 := s1.trans s2
    refine ⟨_, rfl, _, _, rfl, .d1 (.dp (.lst (SqL.of d2) rw2.dp)), okr.sh, Nat.le_trans okr.ln (by decide), Nat.le_trans okr.dp (by decide), ?_⟩
    refine ⟨_, rfl, d, _, rfl, dgs (s02 _ _ h1) h3, _, _, rfl, .d1 (.dp (.lst (SqL.of (s02 _ _ e1)) (row.kp (KT.of s02)).dp)), okr.sh, Nat.le_trans okr.ln (by decide), Nat.le_trans okr.dp (by decide), rfl, _, rfl, ?_⟩
    refine ite2 (fun _ => ?_) (fun z => absurd (decide_eq_true rfl) z)
    refine ⟨_, rfl, o, dx, fs, rfl, s02 _ _ x1, nl _ (by decide), N, o, ms, ls, gv, ts, rfl, ord.kp (fun c u _ z => s02 c u z), _, _, rfl, .d1 (.dp (.int _)), okt.sh, Nat.le_trans okt.ln (by decide), Nat.le_trans okt.dp (by decide), ?_⟩
    refine ⟨_, rfl, d, _, rfl, dgs (s02 _ _ h1) h5, _, _, rfl, .d1 (.dp (.int _)), okt.sh, Nat.le_trans okt.ln (by decide), Nat.le_trans okt.dp (by decide), rfl, ?_⟩
    rw [decide_eq_true rfl]
    exact q _ s02
end
end K13
set_option maxHeartbeats 1000000
namespace K13
open PySem PySem.Spec PyProof.Rows L2 Gd Gx
open C8 (clsBody Met pe_mt pe_mt0)
theorem OrdA.cutT {N : Addr → Prop} {H : Hp} {o C : Addr} {ms ls : List Nat} {gv ts : Nat} (r : OrdA N H o C ms ls gv ts) : OrdA (fun c => N c ∧ H c ≠ none ∧ ∀ ys, H c ≠ some (.tup ys)) H o C ms ls gv ts := by
  obtain ⟨dx, m, d, fs, kvs, e1, l1, l2, l3, l4, nl, e2, e3, dc, lf, No, Nm, Nd⟩ := r.ex
  refine ⟨⟨dx, m, d, fs, kvs, e1, l1, l2, l3, l4, nl, e2, e3, dc, lf, ⟨No, ?_, fun ys => ?_⟩, ⟨Nm, ?_, fun ys => ?_⟩, ⟨Nd, ?_, fun ys => ?_⟩⟩, r.ok⟩
  · rw [e1]
    simp
  · rw [e1]
    simp
  · rw [e2]
    simp
  · rw [e2]
    simp
  · rw [e3]
    simp
  · rw [e3]
    simp
/-- an order and its model, M all that is their own -/
def OneX (M : Addr → Prop) (H : Hp) (C o d r : Addr) (ms ls : List Nat) (gv ts : Nat) : Prop := ∃ N : Addr → Prop, OrdA N H o C ms ls gv ts ∧ Mod H d r ms ls gv ts ∧ (∀ c, N c → M c) ∧ M d ∧ M r ∧ ¬ N d ∧ ¬ N r ∧ (∀ c ys, H c = some (.tup ys) → ¬ N c) ∧ ∀ c, N c → H c ≠ none
section
variable {M N : Addr → Prop} {H H1 H2 : Hp} {C o d r r' : Addr} {ms ls : List Nat} {gv ts : Nat}
theorem OneX.mk' (a : OrdA N H o C ms ls gv ts) (b : Mod H d r ms ls gv ts) (s : ∀ c, N c → M c) (md : M d) (mr : M r) (nd : ¬ N d) (nr : ¬ N r) : OneX M H C o d r ms ls gv ts :=
  ⟨_, a.cutT, b, fun c h => s c h.1, md, mr, fun h => nd h.1, fun h => nr h.1, fun c ys z h => h.2.2 ys z, fun c h => h.2.1⟩
theorem OneX.kp (x : OneX M H C o d r ms ls gv ts) (k : ∀ c u, M c → H c = some u → H1 c = some u) (t : KT H H1) : OneX M H1 C o d r ms ls gv ts := by
  obtain ⟨N, a, b, c1, c2, c3, c4, c5, c6, c7⟩ := x
  exact .mk' (a.kp fun c u h z => k c u (c1 c h) z) (b.kp (fun c u h z => k c u (by rcases h with rfl | rfl; exact c2; exact c3) z) t) c1 c2 c3 c4 c5
theorem OneX.same (x : OneX M H C o d r ms ls gv ts) (s : Same H H1) : OneX M H1 C o d r ms ls gv ts := x.kp (fun c u _ z => s c u z) (KT.of s)
theorem OneX.sub {M' : Addr → Prop} (x : OneX M H C o d r ms ls gv ts) (s : ∀ c, H c ≠ none → M c → M' c) : OneX M' H C o d r ms ls gv ts := by
  obtain ⟨N, a, b, c1, c2, c3, c4, c5, c6, c7⟩ := x
  have b0 := b
  obtain ⟨kvs, h1, h2, h3, h4, h5, xs, h6, h7⟩ := b0
  exact ⟨N, a, b, fun c h => s c (c7 c h) (c1 c h), s d (by rw [h1]; simp) c2, s r (by rw [h6]; simp) c3, c4, c5, c6, c7⟩
/-- behind a put at both -/
theorem OneX.bp (oa : OrdA N H1 o C ms ls gv ts) (f1 : ∀ c u, ¬ N c → H c = some u → H1 c = some u) (s : ∀ c, N c → M c) (md : M d) (nd : ¬ N d) (ct : ∀ c ys, H c = some (.tup ys) → ¬ N c) {kv : List (Key × V)} (hd : H1 d = some (.dK kv))
    (b2 : Mod H2 d r' ms ls gv ts) (n1 : H1 r' = none) (f2 : ∀ c u, c ≠ d → H1 c = some u → H2 c = some u) :
    ∃ M' : Addr → Prop, OneX M' H2 C o d r' ms ls gv ts ∧ (∀ c, M' c → M c ∨ H c = none) ∧ (∀ c u, ¬ M c → H c = some u → H2 c = some u) ∧ KT H H2 := by
  refine ⟨fun c => M c ∨ c = r', .mk' (oa.cutT.kp fun c u h z => f2 c u (fun e => nd (e ▸ h.1)) z) b2 (fun c h => .inl (s c h.1)) (.inl md) (.inr rfl) (fun h => nd h.1) (fun h => h.2.1 n1), fun c h => ?_, fun c u h z => f2 c u (fun e => h (e ▸ md)) (f1 c u (fun e => h (s c e)) z), fun c ys z => ?_⟩
  · rcases h with h | rfl
    · exact .inl h
    · by_cases e : N c
      · exact .inl (s c e)
      · right
        cases hx : H c with
        | none => rfl
        | some u =>
          have := f1 c u e hx
          rw [n1] at this
          cases this
  · have z1 := f1 c _ (ct c ys z) z
    exact f2 c _ (fun e => by rw [e, hd] at z1; cases z1) z1
end
theorem readyT_le (ls : List Nat) (i ts : Nat) : readyT ls i ts ≤ ts + 1 := by
  unfold readyT
  split <;> omega
/-- how it goes on from H -/
def St (M : Addr → Prop) (H : Hp) (C o d b : Addr) (n : Int) (mx gx tx : Nat) (H' : Hp) : Prop := ∃ (M' : Addr → Prop) (r' : Addr) (ms' ls' : List Nat) (gv' ts' : Nat), OneX M' H' C o d r' ms' ls' gv' ts' ∧ (∀ c, M' c → M c ∨ H c = none) ∧ BoxD H' b n ∧ ms'.length ≤ mx ∧ gv' ≤ gx ∧ ts' ≤ tx ∧
  (∀ c u, ¬ M c → c ≠ b → H c = some u → H' c = some u) ∧ KT H H'
def spStep (C : Addr) : Sp := fun vs H Q _ => ∃ (M : Addr → Prop) (b o d r : Addr) (ms ls : List Nat) (gv ts : Nat) (n : Int), vs = [.ref b, .ref o, .ref d] ∧ BoxD H b n ∧ n ≤ 100000 ∧ OneX M H C o d r ms ls gv ts ∧ ¬ M b ∧ ms.length ≤ 190 ∧ gv ≤ 900 ∧
  ∀ H', St M H C o d b (n + 4) (ms.length + 5) (gv + 5) (ts + 5) H' → Q .non H'
theorem seqIx {n : Nat} {i : Nat} (h : i < n) : seqIndex? ((i : Nat) : Int) n = some i := by
  unfold seqIndex?
  simp
  omega
section
variable {P : Program} {w : World} {K : PySem.W.Frag} {mg : Str → Option Value} {base : Heap} {C CT fT : Addr}
theorem ok_step (T : Txt K mg) (m_drop : Met P w K mg base 3 C "drop" (spDrop C) []) (m_behind : Met P w K mg base 3 C "behind" (spBehind C) []) (c__law_take : CalG P w K mg base 1 "_law_take" spTakeD) (c__law_put : CalG P w K mg base 2 "_law_put" spPut) (c__law_newest : CalG P w K mg base 1 "_law_newest" spNewest)
    (D : DefAt K mg "_law_step" s__law_step ["_law_box_here", "_law_order", "_law_model"]) : CalG P w K mg base 4 "_law_step" (spStep C) := by
  refine D.cal sc__law_step (fun vs H Q E h => ?_) (fun f cdv A outer s H vs Q E hG hr h => ?_)
  · obtain ⟨M, b, o, d, r, ms, ls, gv, ts, n, rfl, _⟩ := h
    rfl
  · obtain ⟨M, b, o, d, r, ms, ls, gv, ts, n, rfl, hB, hn, x0, nb, few, hgv, q⟩ := h
    have hb0 : H b ≠ none := by
      obtain ⟨u, hu⟩ := hB.some
      rw [hu]
      simp
    have tb : ∀ {H1 H2 : Hp} {n : Int}, BoxD H1 b n → (∀ c, c ≠ b → H2 c = H1 c) → KT H1 H2 := fun hB k c ys z => (k c (fun e => by
      obtain ⟨_, _, _, _, hu, _⟩ := hB
      rw [e, hu] at z
      cases z)).trans z
    refine ⟨_, (pss_cons (ps_set (i := 3) sc__law_step.nd rfl (Or.inl rfl) (pe_cmpR op_eq (pe_g c__law_take hG (hr.mono (by decide)) (by rfl) (pa_cons (pv 0) (pa_cons pe_int pa_nil))) pe_int (nomark _)))
      (pss_cons (ps_set (i := 4) sc__law_step.nd rfl (Or.inl rfl) (pe_g c__law_take hG (hr.mono (by decide)) (by rfl) (pa_cons (pv 0) (pa_cons pe_int pa_nil))))
      (pss_cons (ps_set (i := 5) sc__law_step.nd rfl (Or.inl rfl) (pe_op op_add pe_int (pe_g c__law_take hG (hr.mono (by decide)) (by rfl) (pa_cons (pv 0) (pa_cons pe_int pa_nil)))))
      (pss_cons (ps_set (i := 6) sc__law_step.nd rfl (Or.inl rfl) (pe_g c__law_take hG (hr.mono (by decide)) (by rfl) (pa_cons (pv 0) (pa_cons (pe_callB call_len (by rfl) T.b_len boot_len_ (pa_cons (pe_dget (hu_of hr) (pv 2) pe_str (fun _ _ => rfl)) pa_nil)) pa_nil))))
      (pss_cons (ps_if (PW.pt (pw_and (pt_val (pv 3)) (pw_and1 (pt_cmpR op_gt (pe_callB call_len (by rfl) T.b_len boot_len_ (pa_cons (pe_dget (hu_of hr) (pv 2) pe_str (fun _ _ => rfl)) pa_nil)) pe_int (nomark _)))))
          (pss_cons (ps_expr (pe_mt m_drop hr (by decide) (pv 1) (pa_cons (pe_ix ix_tup (pe_bm PySem.F.plainAttrs_list PySem.F.slot_list_pop PySem.F.type_list_pop mt_popAt (pe_dget (hu_of hr) (pv 2) pe_str (fun _ _ => rfl)) (pa_cons (pv 6) pa_nil)) pe_int (fun _ _ => rfl)) pa_nil)))
          (pss_one (ps_set (i := 6) sc__law_step.nd rfl (Or.inl rfl) (pe_callB (call_min2 rfl) (by rfl) T.b_min boot_min_ (pa_cons (pv 6) (pa_cons (pe_op op_sub (pe_callB call_len (by rfl) T.b_len boot_len_ (pa_cons (pe_dget (hu_of hr) (pv 2) pe_str (fun _ _ => rfl)) pa_nil)) pe_int) pa_nil)))))) pss_nil)
      (pss_one (ps_for PassesOwn.never rfl (pi_range1 rfl T.b_range (pa_cons (pv 5) pa_nil)) (pg_name (i := 7) sc__law_step.nd rfl (Or.inl rfl))
          (pss_cons (ps_set (i := 8) sc__law_step.nd rfl (Or.inl rfl) (pe_dget (hu_of hr) (pv 2) pe_str (fun _ _ => rfl)))
          (pss_cons (ps_set (i := 9) sc__law_step.nd rfl (Or.inl rfl) (pe_ix ix_list (pe_lst (pa_cons (pe_callB (call_min2 rfl) (by rfl) T.b_min boot_min_ (pa_cons (pv 6) (pa_cons (pe_op op_sub (pe_callB call_len (by rfl) T.b_len boot_len_ (pa_cons (pv 8) pa_nil)) pe_int) pa_nil))) (pa_cons pe_int (pa_cons (pe_op op_sub (pe_callB call_len (by rfl) T.b_len boot_len_ (pa_cons (pv 8) pa_nil)) pe_int) (pa_cons (pe_g c__law_newest hG (hr.mono (by decide)) (by rfl) (pa_cons (pv 8) pa_nil)) pa_nil))))) (pv 4) (fun _ _ => rfl)))
          (pss_cons (ps_expr (pe_mt m_behind hr (by decide) (pv 1) (pa_cons (pe_ix ix_tup (pe_ix ix_list (pv 8) (pv 9) (fun _ _ => rfl)) pe_int (fun _ _ => rfl)) pa_nil)))
          (pss_one (ps_expr (pe_g c__law_put hG (hr.mono (by decide)) (by rfl) (pa_cons (pv 2) (pa_cons (pv 9) pa_nil))))))))))))))), ?_⟩
    refine ⟨_, rfl, b, 8, n, rfl, hB, by omega, by decide, by decide, fun d0 H0 _ _ hB0 k0 => ⟨rfl, ?_⟩⟩
    refine ⟨_, rfl, b, 4, n + 1, rfl, hB0, by omega, by decide, by decide, fun way H1 w0 w1 hB1 k1 => ?_⟩
    refine ⟨_, rfl, b, 5, n + 1 + 1, rfl, hB1, by omega, by decide, by decide, fun many H2 m0 m1 hB2 k2 => ⟨_, _, rfl, rfl, ?_⟩⟩
    have t2 : KT H H2 := ((tb hB k0).trans (tb hB0 k1)).trans (tb hB1 k2)
    have kk2 : ∀ c u, c ≠ b → H c = some u → H2 c = some u := fun c u hc z => (k2 c hc).trans ((k1 c hc).trans ((k0 c hc).trans z))
    have x2 : OneX M H2 C o d r ms ls gv ts := x0.kp (fun c u hc z => kk2 c u (fun e => nb (e ▸ hc)) z) t2
    obtain ⟨N, oa, ob, c1, c2, c3, c4, c5, c6, c7⟩ := x2
    obtain ⟨kvs, h1, h2, h3, h4, h5, xs, e1, row⟩ := ob
    have hpos := oa.ok.pos
    have hx := row.lm
    refine ⟨_, rfl, _, rfl, d, _, rfl, dgs h1 h3, .ref r, _, rfl, .inl ⟨_, SqL.of e1, rfl⟩, b, _, n + 1 + 1 + 1, rfl, hB2, by omega, by omega, by omega, fun at0 H3 a0 a1 hB3 k3 => ?_⟩
    rw [hx] at a1
    have t3 : KT H H3 := t2.trans (tb hB2 k3)
    have kk3 : ∀ c u, c ≠ b → H c = some u → H3 c = some u := fun c u hc z => (k3 c hc).trans (kk2 c u hc z)
    have kM : ∀ c u, M c → H2 c = some u → H3 c = some u := fun c u hc z => (k3 c (fun e => nb (e ▸ hc))).trans z
    have x3 : OneX M H3 C o d r ms ls gv ts := OneX.kp ⟨N, oa, ⟨kvs, h1, h2, h3, h4, h5, xs, e1, row⟩, c1, c2, c3, c4, c5, c6, c7⟩ kM (tb hB2 k3)
    replace hB3 : BoxD H3 b (n + 4) := hB3.up (by omega)
    clear oa h1 h2 h3 h4 h5 e1 row c1 c4 c5 c6 c7 kM t2 kk2 k0 k1 k2 k3 hB0 hB1 hB2 hx
    obtain ⟨N, oa, ob, c1, c2, c3, c4, c5, c6, c7⟩ := x3
    have ob0 := ob
    obtain ⟨kvs, h1, h2, h3, h4, h5, xs, e1, row⟩ := ob0
    have hx := row.lm
    have hdr : d ≠ r := fun e => by rw [e, e1] at h1; cases h1
    obtain ⟨dx, fs, y1, nl⟩ := oa.ins
    refine ⟨_, rfl, _, rfl, ?_⟩
    refine ite2 (fun hdrop => ?_) (fun hdrop => ?_)
    focus
      refine ⟨_, rfl, d, _, rfl, dgs h1 h3, .ref r, _, rfl, .inl ⟨_, SqL.of e1, rfl⟩, _, _, rfl, rfl, _, rfl, ?_⟩
      refine ite2 (fun hgt => ?_) (fun hgt => ?_)
      focus
        have hl2 : 1 < ms.length := by
          have := of_decide_eq_true hgt
          omega
        obtain ⟨i, rfl⟩ : ∃ i : Nat, at0 = i := ⟨at0.toNat, by omega⟩
        have hi : i < ms.length := by omega
        obtain ⟨m, l, t, g1, g2, g3, g4⟩ := row.get hi
        refine ⟨_, rfl, o, dx, fs, rfl, y1, nl _ (by decide), _, rfl, d, _, rfl, dgs h1 h3, .inl ⟨rfl, _, SqL.of e1⟩, _, rfl, r, _, _, i, .ref t, rfl, rfl, e1, by omega, by omega, seqIx (by omega), g3, ?_⟩
        have tr : t ≠ r := fun e => by rw [e, e1] at g4; cases g4
        have k4 : ∀ c u, c ≠ r → H3 c = some u → (upd H3 r (.lst (xs.eraseIdx i))) c = some u := fun c u hc z => by
          rw [upd_ne hc]
          exact z
        have r4 : (upd H3 r (.lst (xs.eraseIdx i))) r = some (.lst (xs.eraseIdx i)) := upd_same
        generalize upd H3 r (.lst (xs.eraseIdx i)) = H4 at *
        have t4 : KT H3 H4 := fun c ys z => k4 c _ (fun e => by rw [e, e1] at z; cases z) z
        refine ⟨t, _, _, num m, rfl, rfl, SqT.of (k4 _ _ tr g4), rfl, N, o, ms, ls, gv, ts, i, m, rfl, oa.kp (fun c u hc z => k4 c u (fun e => c5 (e ▸ hc)) z), g1, hl2, fun H5 oa5 f5 => ?_⟩
        have t5 : KT H3 H5 := fun c ys z => f5 c _ (c6 c ys z) (t4 c ys z)
        have d5 := f5 _ _ c4 (k4 _ _ hdr h1)
        have r5 := f5 _ _ c5 r4
        have x5 : OneX M H5 C o d r (ms.eraseIdx i) (ls.eraseIdx i) gv ts := .mk' oa5 ⟨kvs, d5, h2, h3, h4, h5, _, r5, (row.erase hi).kp t5⟩ c1 c2 c3 c4 c5
        have le5 := er_len hi
        refine ⟨_, rfl, _, rfl, d, _, rfl, dgs d5 h3, .ref r, _, rfl, .inl ⟨_, SqL.of r5, rfl⟩, _, _, rfl, rfl, _, _, rfl, ?_⟩
        have B5 : BoxD H5 b (n + 4) := hB3.kp fun u z => f5 _ _ (fun e => nb (c1 _ e)) (k4 _ _ (fun e => nb (e ▸ c3)) z)
        have fr5 : ∀ c u, ¬ M c → c ≠ b → H c = some u → H5 c = some u := fun c u hc hb z => f5 _ _ (fun e => hc (c1 _ e)) (k4 _ _ (fun e => hc (e ▸ c3)) (kk3 c u hb z))
        have st5 : St M H C o d b (n + 4) (ms.length + 0) (gv + 0) (ts + 0) H5 := ⟨M, r, _, _, gv, ts, x5, fun c h => .inl h, B5, by omega, Nat.le_refl _, Nat.le_refl _, fr5, t3.trans t5⟩
        have hle : (xs.eraseIdx i).length = ms.length - 1 := by rw [er_len (by omega)]; omega
        obtain ⟨at1, ea1⟩ : ∃ at1 : Nat, (if (((xs.eraseIdx i).length : Nat) : Int) - 1 < ((i : Nat) : Int) then (((xs.eraseIdx i).length : Nat) : Int) - 1 else ((i : Nat) : Int)) = (at1 : Int) := by
          rw [hle]
          split
          · exact ⟨ms.length - 1 - 1, by omega⟩
          · exact ⟨i, rfl⟩
        rw [ea1]
        clear x5 fr5 B5 t5 t4 k4 r4 d5 r5 oa oa5 hdrop hgt f5
    rotate_left
    focus
      obtain ⟨at1, rfl⟩ : ∃ at1 : Nat, at0 = at1 := ⟨at0.toNat, by omega⟩
      obtain ⟨H5, hH5⟩ : ∃ X, X = H3 := ⟨_, rfl⟩
      have st5 : St M H C o d b (n + 4) (ms.length + 0) (gv + 0) (ts + 0) H5 := hH5 ▸ ⟨M, r, ms, ls, gv, ts, ⟨N, oa, ob, c1, c2, c3, c4, c5, c6, c7⟩, fun c h => .inl h, hB3, Nat.le_refl _, Nat.le_refl _, Nat.le_refl _, fun c u _ hc z => kk3 c u hc z, t3⟩
      rw [← hH5]
      clear hgt hdrop
    rotate_left
    focus
      obtain ⟨at1, rfl⟩ : ∃ at1 : Nat, at0 = at1 := ⟨at0.toNat, by omega⟩
      obtain ⟨H5, hH5⟩ : ∃ X, X = H3 := ⟨_, rfl⟩
      have st5 : St M H C o d b (n + 4) (ms.length + 0) (gv + 0) (ts + 0) H5 := hH5 ▸ ⟨M, r, ms, ls, gv, ts, ⟨N, oa, ob, c1, c2, c3, c4, c5, c6, c7⟩, fun c h => .inl h, hB3, Nat.le_refl _, Nat.le_refl _, Nat.le_refl _, fun c u _ hc z => kk3 c u hc z, t3⟩
      rw [← hH5]
      clear hdrop
    all_goals
      refine ⟨_, rfl, _, rfl, by omega, by omega, ?_⟩
      refine for_range (lo := 0) (fun k σ H' => ∃ y7 y8 y9 : Option V, σ = [some (.ref b), some (.ref o), some (.ref d), some (.bl (decide (V.int d0 = V.int 0))), some (.int way), some (.int (1 + many)), some (.int (at1 : Nat)), y7, y8, y9] ∧ St M H C o d b (n + 4) (ms.length + k) (gv + k) (ts + k) H')
        ⟨none, none, none, rfl, st5⟩ (fun k σ H6 hk hP => ?_) (fun σ H6 hP => ?_)
      · obtain ⟨y7, y8, y9, rfl, M1, r1, ms1, ls1, gv1, ts1, x1, gr1, B1, l1, l2, l3, fr1, kt1⟩ := hP
        have hk5 : k < 5 := by omega
        have nb1 : ¬ M1 b := fun e => by
          rcases gr1 b e with e | e
          · exact nb e
          · exact hb0 e
        obtain ⟨N1, oa1, ob1, c1, c2, c3, c4, c5, c6, c7⟩ := x1
        have ob2 := ob1
        obtain ⟨kv1, h1, h2, h3, h4, h5, xs1, e1, row1⟩ := ob2
        have pos1 := oa1.ok.pos
        have few1 := oa1.ok.few
        have hx1 := row1.lm
        obtain ⟨dx, fs, y1, nl⟩ := oa1.ins
        refine ⟨_, rfl, d, _, rfl, dgs h1 h3, ?_⟩
        refine ⟨_, rfl, _, rfl, .ref r1, _, rfl, .inl ⟨_, SqL.of e1, rfl⟩, _, _, rfl, rfl, _, _, rfl, ?_⟩
        refine ⟨_, rfl, .ref r1, _, rfl, .inl ⟨_, SqL.of e1, rfl⟩, _, _, rfl, rfl, ?_⟩
        refine ⟨_, rfl, r1, ms1, ls1, rfl, ⟨xs1, e1, row1⟩, pos1, few1, fun jn H7 hjn s7 => ?_⟩
        refine ⟨(by show 4 ≤ sizeLine; decide), fun l hl => ?_⟩
        obtain ⟨v, hv, hat⟩ := pickL [V.int (if ((xs1.length : Nat) : Int) - 1 < ((at1 : Nat) : Int) then ((xs1.length : Nat) : Int) - 1 else ((at1 : Nat) : Int)), .int 0, .int (((xs1.length : Nat) : Int) - 1), num jn] w0 (by show way < ((4 : Nat) : Int); omega)
        obtain ⟨i, rfl, hi⟩ : ∃ i : Nat, v = num i ∧ i < ms1.length := by
          simp only [List.mem_cons, List.not_mem_nil, or_false] at hv
          rcases hv with rfl | rfl | rfl | rfl
          · split
            · exact ⟨ms1.length - 1, by show V.int _ = V.int _; congr 1; omega, by omega⟩
            · exact ⟨at1, rfl, by omega⟩
          · exact ⟨0, rfl, pos1⟩
          · exact ⟨ms1.length - 1, by show V.int _ = V.int _; congr 1; omega, by omega⟩
          · exact ⟨jn, rfl, hjn⟩
        have s78 := same_new (o := .lst [V.int (if ((xs1.length : Nat) : Int) - 1 < ((at1 : Nat) : Int) then ((xs1.length : Nat) : Int) - 1 else ((at1 : Nat) : Int)), .int 0, .int (((xs1.length : Nat) : Int) - 1), num jn]) hl
        have f8 : (upd H7 l (.lst [V.int (if ((xs1.length : Nat) : Int) - 1 < ((at1 : Nat) : Int) then ((xs1.length : Nat) : Int) - 1 else ((at1 : Nat) : Int)), .int 0, .int (((xs1.length : Nat) : Int) - 1), num jn])) l = some (.lst [V.int (if ((xs1.length : Nat) : Int) - 1 < ((at1 : Nat) : Int) then ((xs1.length : Nat) : Int) - 1 else ((at1 : Nat) : Int)), .int 0, .int (((xs1.length : Nat) : Int) - 1), num jn]) := upd_same
        refine ⟨_, rfl, l, _, _, _, rfl, rfl, SqL.of f8, hat, ?_⟩
        have s8 := s7.trans s78
        generalize upd H7 l (.lst [V.int (if ((xs1.length : Nat) : Int) - 1 < ((at1 : Nat) : Int) then ((xs1.length : Nat) : Int) - 1 else ((at1 : Nat) : Int)), .int 0, .int (((xs1.length : Nat) : Int) - 1), num jn]) = H8 at *
        clear f8 hat hv s7 s78 hjn
        have x8 : OneX M1 H8 C o d r1 ms1 ls1 gv1 ts1 := OneX.same ⟨N1, oa1, ob1, c1, c2, c3, c4, c5, c6, c7⟩ s8
        have B8 := B1.kp fun u z => s8 _ _ z
        have fr8 : ∀ c u, ¬ M c → c ≠ b → H c = some u → H8 c = some u := fun c u hc hb z => s8 _ _ (fr1 c u hc hb z)
        have kt8 := kt1.trans (KT.of s8)
        have gr8 : ∀ c, M1 c → H8 c ≠ none → M c ∨ H c = none := fun c h _ => gr1 c h
        have y8' := s8 _ _ y1
        clear oa1 ob1 c1 c2 c3 c4 c5 c6 c7 h1 h2 h3 h4 h5 e1 row1 hx1
        obtain ⟨N8, oa8, ob8, c1, c2, c3, c4, c5, c6, c7⟩ := x8
        have ob2 := ob8
        obtain ⟨kv1, h1, h2, h3, h4, h5, xs1, e1, row1⟩ := ob2
        obtain ⟨m, l, t, g1, g2, g3, g4⟩ := row1.get hi
        refine ⟨_, rfl, o, dx, fs, rfl, y8', nl _ (by decide), _, rfl, _, rfl, r1, _, _, _, rfl, rfl, SqL.of e1, atI_nat g3, t, _, _, num m, rfl, rfl, SqT.of g4, rfl, N8, o, ms1, ls1, gv1, ts1, i, m, rfl, oa8, g1, by omega, by omega, fun H9 oa9 f9 => ?_⟩
        have d9 := f9 _ _ c4 h1
        have k9 : KT H8 H9 := fun c ys z => f9 c _ (c6 c ys z) z
        have ob9 : Mod H9 d r1 ms1 ls1 gv1 ts1 := ob8.kp (fun c u hc z => f9 c u (by rcases hc with rfl | rfl; exact c4; exact c5) z) k9
        refine ⟨_, rfl, _, rfl, d, r1, ms1, ls1, gv1, ts1, i, rfl, ob9, hi, few1, fun r2 HA mdA nA fA => ?_⟩
        obtain ⟨M2, x2, gr2, fr2, kt2⟩ := OneX.bp oa9 f9 c1 c2 c4 c6 d9 mdA nA fA
        have rl := readyT_le ls1 i ts1
        have B2 : BoxD HA b (n + 4) := B8.kp fun u z => fr2 _ _ nb1 z
        refine ⟨_, _, _, rfl, M2, r2, _, _, _, _, x2, fun c h => ?_, B2, by rw [inl_len (by omega)]; omega, by omega, by omega, fun c u hc hb z => ?_, kt8.trans kt2⟩
        · rcases gr2 c h with h | h
          · exact gr1 c h
          · by_cases e : M c
            · exact .inl e
            · by_cases e2 : c = b
              · obtain ⟨u, hu⟩ := B8.some
                rw [e2, hu] at h
                cases h
              · right
                cases hx : H c with
                | none => rfl
                | some u =>
                  have := fr8 c u e e2 hx
                  rw [h] at this
                  cases this
        · by_cases e : M1 c
          · rcases gr1 c e with e | e
            · exact absurd e hc
            · rw [e] at z
              cases z
          · exact fr2 c u e (fr8 c u hc hb z)
      · obtain ⟨y7, y8, y9, rfl, M1, r1, ms1, ls1, gv1, ts1, x1, gr1, B1, l1, l2, l3, fr1, kt1⟩ := hP
        exact q H6 ⟨M1, r1, ms1, ls1, gv1, ts1, x1, gr1, B1, by omega, by omega, by omega, fr1, kt1⟩
end
end K13
set_option maxHeartbeats 1000000
namespace K13
open PySem PySem.Spec PyProof.Rows L2 Gd Gx
open C8 (clsBody Met pe_mt pe_mt0)
structure Go (M : Addr → Prop) (H : Hp) (M' : Addr → Prop) (H' : Hp) : Prop where
  gr : ∀ c, M' c → M c ∨ H c = none
  fr : ∀ c u, ¬ M c → H c = some u → H' c = some u
  kt : KT H H'
theorem Go.trans {M M1 M2 : Addr → Prop} {H H1 H2 : Hp} (a : Go M H M1 H1) (b : Go M1 H1 M2 H2) : Go M H M2 H2 := by
  refine ⟨fun c h => ?_, fun c u h z => ?_, a.kt.trans b.kt⟩
  · rcases b.gr c h with h | h
    · exact a.gr c h
    · by_cases e : M c
      · exact .inl e
      · right
        cases hx : H c with
        | none => rfl
        | some u =>
          have := a.fr c u e hx
          rw [h] at this
          cases this
  · by_cases e : M1 c
    · rcases a.gr c e with e | e
      · exact absurd e h
      · rw [e] at z
        cases z
    · exact b.fr c u e (a.fr c u h z)
theorem Go.same {M : Addr → Prop} {H H' : Hp} (s : Same H H') : Go M H M H' := ⟨fun c h => .inl h, fun c u _ z => s c u z, KT.of s⟩
theorem shown201 : (PyData.int 201).shown = Str.ofString "201" := by
  simp only [PyData.shown]
  decide +kernel
theorem last_er {α : Type} {xs : List α} (h : 0 < xs.length) : xs.dropLast = xs.eraseIdx (xs.length - 1) := by
  rw [List.dropLast_eq_take, List.eraseIdx_eq_take_drop_succ, List.drop_eq_nil_of_le (by omega), List.append_nil]
section
variable {P : Program} {w : World} {K : PySem.W.Frag} {mg : Str → Option Value} {base : Heap} {C CT fT : Addr}
def spRefd (C : Addr) : Sp := fun vs H Q _ => ∃ (M : Addr → Prop) (o d r : Addr) (ms ls : List Nat) (gv ts : Nat), vs = [.ref o, .ref d] ∧ OneX M H C o d r ms ls gv ts ∧ ms.length = 200 ∧ gv ≤ 1000 ∧ ts ≤ 1000 ∧ ∀ H', Same H H' → Q (.bl true) H'
theorem ok_refused (T : Txt K mg) (R : ErrT P K mg CT fT) (x_behind : MetX P w K mg base 4 C "behind" (spFull CT C)) (c__law_right : CalG P w K mg base 4 "_law_right" (spRight C))
    (D : DefAt K mg "_law_refused" s__law_refused ["_law_order", "_law_model"]) : CalG P w K mg base 5 "_law_refused" (spRefd C) := by
  refine D.cal sc__law_refused (fun vs H Q E h => ?_) (fun f cdv A outer s H vs Q E hG hr h => ?_)
  · obtain ⟨M, o, d, r, ms, ls, gv, ts, rfl, _⟩ := h
    rfl
  · obtain ⟨M, o, d, r, ms, ls, gv, ts, rfl, x0, hf, hgv, hts, q⟩ := h
    obtain ⟨N, oa, ob, c1, c2, c3, c4, c5, c6, c7⟩ := x0
    have ob2 := ob
    obtain ⟨kvs, h1, h2, h3, h4, h5, xs, e1, row⟩ := ob2
    obtain ⟨dx, fs, y1, nl⟩ := oa.ins
    have hx := row.lm
    refine ⟨_, (pss_cons (ps_for PassesOwn.never rfl (pi_list (pe_dget (hu_of hr) (pv 1) pe_str (fun _ _ => rfl))) (pg_tup (by rfl) (pgs_cons (pg_name (i := 2) sc__law_refused.nd rfl (Or.inl rfl)) (pgs_cons (pg_name (i := 3) sc__law_refused.nd rfl (Or.inl rfl)) pgs_nil)))
          (pss_cons (ps_set (i := 4) sc__law_refused.nd rfl (Or.inl rfl) pe_non)
          (pss_cons (ps_try_as (i := 5) (tb := fun W => tDrop (tMethX C "behind" (spFull CT C) (WE W) (tVar 0) (tCons (tVar 2) tNil))) (ts := fun a cls d => tAsg (Gc.tFound CT a cls d (tVar 5)) (gName 4)) (Wout := fun _ _ _ _ => False) rfl rfl sc__law_refused.nd rfl rfl ⟨rfl, by decide, Or.inl R.g_TooMany⟩ takes0 (fun W pn xe tk _ => pss_one (ps_expr (by exact (pe_mtX x_behind hr (by decide) tk (pv 0) (by exact (pa_cons (pv 2) pa_nil)))))) (fun a oe cls d pn hz hf => pss_one (ps_set (i := 4) sc__law_refused.nd rfl (Or.inl rfl) (Gc.pe_found R.e_TooMany hz hf (pv 5)))))
          (pss_one (ps_if (pt_cmpR op_ne (pe_callB (call_repr hG (hu64 hr)) (by rfl) T.b_repr boot_repr_ (pa_cons (pv 4) pa_nil)) pe_str (nomark _))
              (pss_one (ps_ret pe_bl)) pss_nil)))))
      (pss_one (ps_ret (pe_g c__law_right hG (hr.mono (by decide)) (by rfl) (pa_cons (pv 0) (pa_cons (pv 1) pa_nil)))))), ?_⟩
    refine ⟨_, rfl, d, _, rfl, dgs h1 h3, r, rfl, ⟨_, SqL.of e1⟩, ?_⟩
    refine for_list (xs := xs) (fun k σ H' => Same H H' ∧ ∃ y2 y3 y4 y5 : Option V, σ = [some (.ref o), some (.ref d), y2, y3, y4, y5])
      ⟨fun _ _ z => z, none, none, none, none, rfl⟩ (fun k σ H1 _ hP => SqL.of (hP.1 _ _ e1)) (fun k x σ H1 hxk hP => ?_) (fun σ H1 hP => ?_)
    · obtain ⟨s1, y2, y3, y4, y5, rfl⟩ := hP
      have hk : k < ms.length := by
        by_cases z : k < xs.length
        · omega
        · rw [List.getElem?_eq_none (by omega)] at hxk
          cases hxk
      obtain ⟨m, l, t, g1, g2, g3, g4⟩ := row.get hk
      rw [g3] at hxk
      cases (Option.some.inj hxk)
      refine ⟨t, _, rfl, SqT.of (s1 _ _ g4), rfl, _, _, rfl, _, _, rfl, rfl, ?_⟩
      refine ⟨_, rfl, o, dx, fs, rfl, s1 _ _ y1, nl _ (by decide), _, rfl, N, o, ms, ls, gv, ts, k, m, rfl, oa.kp (fun c u _ z => s1 c u z), g1, hf, fun x hx => ?_⟩
      refine ⟨true, R.m_TooMany, fun _ a' ha' => ?_, fun z => nomatch z⟩
      have s2 : Same H1 (upd H1 x (.xd [("count", .int 201)])) := same_new hx
      have hx2 : (upd H1 x (.xd [("count", .int 201)])) x = some (.xd [("count", .int 201)]) := upd_same
      generalize upd H1 x (.xd [("count", .int 201)]) = H2 at *
      have ok201 : Okd (.int 201) 50 0 := okInt ⟨by decide, by decide⟩
      refine ⟨_, rfl, rfl, rfl, x, _, rfl, hx2, ?_⟩
      refine ⟨_, rfl, _, .int 201, rfl, .d1 (.dp (.int _)), ok201.sh, Nat.le_trans ok201.ln (by decide), Nat.le_trans ok201.dp (by decide), rfl, _, rfl, ?_⟩
      rw [shown201]
      exact ifSame ⟨s1.trans s2, _, _, _, _, rfl⟩
    · obtain ⟨s1, y2, y3, y4, y5, rfl⟩ := hP
      refine ⟨_, rfl, _, rfl, N, o, d, r, ms, ls, gv, ts, rfl, oa.kp (fun c u _ z => s1 c u z), ob.same s1, hgv, hts, fun H2 s2 => q H2 (s1.trans s2)⟩
def spLFull (C : Addr) : Sp := fun vs H Q _ => ∃ (M : Addr → Prop) (o d r : Addr) (ms ls : List Nat) (gv ts : Nat) (way : Int), vs = [.ref o, .ref d, .int way] ∧ 0 ≤ way ∧ way < 3 ∧ OneX M H C o d r ms ls gv ts ∧ gv ≤ 700 ∧ ts ≤ 700 ∧
  ∀ H' M', Go M H M' H' → Q (.bl true) H'
theorem ok_lfull (T : Txt K mg) (m_drop : Met P w K mg base 3 C "drop" (spDrop C) []) (m_behind : Met P w K mg base 3 C "behind" (spBehind C) []) (c__law_put : CalG P w K mg base 2 "_law_put" spPut) (c__law_refused : CalG P w K mg base 5 "_law_refused" (spRefd C)) (c__law_right : CalG P w K mg base 4 "_law_right" (spRight C))
    (D : DefAt K mg "_law_full" s__law_full ["_law_order", "_law_model", "_law_way"]) : CalG P w K mg base 6 "_law_full" (spLFull C) := by
  refine D.cal sc__law_full (fun vs H Q E h => ?_) (fun f cdv A outer s H vs Q E hG hr h => ?_)
  · obtain ⟨M, o, d, r, ms, ls, gv, ts, way, rfl, _⟩ := h
    rfl
  · obtain ⟨M, o, d, r, ms, ls, gv, ts, way, rfl, w0, w1, x0, hgv, hts, q⟩ := h
    refine ⟨_, (pss_cons (ps_while PassesOwn.never (pt_cmpR op_lt (pe_callB call_len (by rfl) T.b_len boot_len_ (pa_cons (pe_dget (hu_of hr) (pv 1) pe_str (fun _ _ => rfl)) pa_nil)) pe_int (nomark _))
          (pss_cons (ps_set (i := 3) sc__law_full.nd rfl (Or.inl rfl) (pe_callB call_len (by rfl) T.b_len boot_len_ (pa_cons (pe_dget (hu_of hr) (pv 1) pe_str (fun _ _ => rfl)) pa_nil)))
          (pss_cons (ps_set (i := 4) sc__law_full.nd rfl (Or.inl rfl) (pe_ix ix_list (pe_lst (pa_cons pe_int (pa_cons (pe_op op_sub (pv 3) pe_int) (pa_cons (pe_op op_mul (pe_op op_sub (pv 3) pe_int) (pe_op op_mod (pv 3) pe_int)) pa_nil)))) (pv 2) (fun _ _ => rfl)))
          (pss_cons (ps_expr (pe_mt m_behind hr (by decide) (pv 0) (pa_cons (pe_ix ix_tup (pe_ix ix_list (pe_dget (hu_of hr) (pv 1) pe_str (fun _ _ => rfl)) (pv 4) (fun _ _ => rfl)) pe_int (fun _ _ => rfl)) pa_nil)))
          (pss_one (ps_expr (pe_g c__law_put hG (hr.mono (by decide)) (by rfl) (pa_cons (pv 1) (pa_cons (pv 4) pa_nil)))))))))
      (pss_cons (ps_for PassesOwn.never rfl (pi_range1 rfl T.b_range (pa_cons pe_int pa_nil)) (pg_name (i := 5) sc__law_full.nd rfl (Or.inl rfl))
          (pss_cons (ps_if (pt_not (pt_val (pe_g c__law_refused hG (hr.mono (by decide)) (by rfl) (pa_cons (pv 0) (pa_cons (pv 1) pa_nil)))))
              (pss_one (ps_ret pe_bl)) pss_nil)
          (pss_cons (ps_expr (pe_mt m_drop hr (by decide) (pv 0) (pa_cons (pe_ix ix_tup (pe_bm0 PySem.F.plainAttrs_list PySem.F.slot_list_pop PySem.F.type_list_pop mt_pop (pe_dget (hu_of hr) (pv 1) pe_str (fun _ _ => rfl))) pe_int (fun _ _ => rfl)) pa_nil)))
          (pss_cons (ps_expr (pe_mt m_behind hr (by decide) (pv 0) (pa_cons (pe_ix ix_tup (pe_ix ix_list (pe_dget (hu_of hr) (pv 1) pe_str (fun _ _ => rfl)) pe_int (fun _ _ => rfl)) pe_int (fun _ _ => rfl)) pa_nil)))
          (pss_one (ps_expr (pe_g c__law_put hG (hr.mono (by decide)) (by rfl) (pa_cons (pv 1) (pa_cons pe_int pa_nil)))))))))
      (pss_one (ps_ret (pe_g c__law_right hG (hr.mono (by decide)) (by rfl) (pa_cons (pv 0) (pa_cons (pv 1) pa_nil))))))), ?_⟩
    have few0 : ms.length ≤ 200 := by
      obtain ⟨N, oa, _⟩ := x0
      exact oa.ok.few
    refine ⟨fun m σ H' => ∃ (M' : Addr → Prop) (r' : Addr) (ms' ls' : List Nat) (gv' ts' : Nat) (y3 y4 : Option V), σ = [some (.ref o), some (.ref d), some (.int way), y3, y4, none] ∧ OneX M' H' C o d r' ms' ls' gv' ts' ∧ Go M H M' H' ∧ ms'.length + m = 200 ∧ gv' + m ≤ 900 ∧ ts' + m ≤ 900,
      ⟨200 - ms.length, M, r, ms, ls, gv, ts, none, none, rfl, x0, Go.same fun _ _ z => z, by omega, by omega, by omega⟩, ?_⟩
    rintro m σ H1 ⟨M1, r1, ms1, ls1, gv1, ts1, y3, y4, rfl, x1, go1, l1, l2, l3⟩
    have x1' := x1
    obtain ⟨N1, oa1, ob1, c1, c2, c3, c4, c5, c6, c7⟩ := x1'
    have ob2 := ob1
    obtain ⟨kv1, h1, h2, h3, h4, h5, xs1, e1, row1⟩ := ob2
    have pos1 := oa1.ok.pos
    have few1 := oa1.ok.few
    have hx1 := row1.lm
    obtain ⟨dx, fs, y1, nl⟩ := oa1.ins
    refine ⟨_, rfl, d, _, rfl, dgs h1 h3, .ref r1, _, rfl, .inl ⟨_, SqL.of e1, rfl⟩, _, _, rfl, rfl, _, rfl, ?_⟩
    refine ite2 (fun hlt => ?_) (fun hlt => ?_)
    · have hlt : ms1.length < 200 := by
        have := of_decide_eq_true hlt
        omega
      refine ⟨fun σ' H'' => ∃ m', m' < m ∧ ∃ (M' : Addr → Prop) (r' : Addr) (ms' ls' : List Nat) (gv' ts' : Nat) (y3 y4 : Option V), σ' = [some (.ref o), some (.ref d), some (.int way), y3, y4, none] ∧ OneX M' H'' C o d r' ms' ls' gv' ts' ∧ Go M H M' H'' ∧ ms'.length + m' = 200 ∧ gv' + m' ≤ 900 ∧ ts' + m' ≤ 900, fun σ' H'' z => z, ?_⟩
      refine ⟨_, rfl, d, _, rfl, dgs h1 h3, .ref r1, _, rfl, .inl ⟨_, SqL.of e1, rfl⟩, ?_⟩
      have h01 : ((xs1.length : Nat) : Int) % 2 = 0 ∨ ((xs1.length : Nat) : Int) % 2 = 1 := by omega
      refine ⟨_, rfl, _, _, rfl, rfl, _, rfl, _, _, rfl, rfl, _, rfl, _, _, rfl, rfl, (by show (0 : Int) < 2; decide), _, _, rfl, rfl, .inl ⟨by omega, by omega⟩, (by show 3 ≤ sizeLine; decide), fun l hl => ?_⟩
      obtain ⟨v, hv, hat⟩ := pickL [.int 0, .int (((xs1.length : Nat) : Int) - 1), V.int ((((xs1.length : Nat) : Int) - 1) * (((xs1.length : Nat) : Int) % 2))] w0 (by show way < ((3 : Nat) : Int); omega)
      obtain ⟨i, rfl, hi⟩ : ∃ i : Nat, v = num i ∧ i < ms1.length := by
        simp only [List.mem_cons, List.not_mem_nil, or_false] at hv
        rcases hv with rfl | rfl | rfl
        · exact ⟨0, rfl, pos1⟩
        · exact ⟨ms1.length - 1, by show V.int _ = V.int _; congr 1; omega, by omega⟩
        · rcases h01 with z | z
          · exact ⟨0, by rw [z, Int.mul_zero]; rfl, pos1⟩
          · exact ⟨ms1.length - 1, by rw [z, Int.mul_one]; show V.int _ = V.int _; congr 1; omega, by omega⟩
      have s2 := same_new (o := .lst [.int 0, .int (((xs1.length : Nat) : Int) - 1), V.int ((((xs1.length : Nat) : Int) - 1) * (((xs1.length : Nat) : Int) % 2))]) hl
      have f2 : (upd H1 l (.lst [.int 0, .int (((xs1.length : Nat) : Int) - 1), V.int ((((xs1.length : Nat) : Int) - 1) * (((xs1.length : Nat) : Int) % 2))])) l = some (.lst [.int 0, .int (((xs1.length : Nat) : Int) - 1), V.int ((((xs1.length : Nat) : Int) - 1) * (((xs1.length : Nat) : Int) % 2))]) := upd_same
      refine ⟨_, rfl, l, _, _, _, rfl, rfl, SqL.of f2, hat, ?_⟩
      generalize upd H1 l (.lst [.int 0, .int (((xs1.length : Nat) : Int) - 1), V.int ((((xs1.length : Nat) : Int) - 1) * (((xs1.length : Nat) : Int) % 2))]) = H2 at *
      have x2 := x1.same s2
      have go2 := go1.trans (Go.same (M := M1) s2)
      have y2 := s2 _ _ y1
      clear x1 go1 oa1 ob1 c1 c2 c3 c4 c5 c6 c7 h1 h2 h3 h4 h5 e1 row1 y1 hv hat f2
      obtain ⟨N1, oa1, ob1, c1, c2, c3, c4, c5, c6, c7⟩ := x2
      have ob2 := ob1
      obtain ⟨kv1, h1, h2, h3, h4, h5, xs2, e1, row1⟩ := ob2
      obtain ⟨m0, l0, t, g1, g2, g3, g4⟩ := row1.get hi
      refine ⟨_, rfl, o, dx, fs, rfl, y2, nl _ (by decide), _, rfl, d, _, rfl, dgs h1 h3, _, rfl, r1, _, _, _, rfl, rfl, SqL.of e1, atI_nat g3, t, _, _, num m0, rfl, rfl, SqT.of g4, rfl, N1, o, ms1, ls1, gv1, ts1, i, m0, rfl, oa1, g1, hlt, by omega, fun H9 oa9 f9 => ?_⟩
      have d9 := f9 _ _ c4 h1
      have k9 : KT H2 H9 := fun c ys z => f9 c _ (c6 c ys z) z
      have ob9 : Mod H9 d r1 ms1 ls1 gv1 ts1 := ob1.kp (fun c u hc z => f9 c u (by rcases hc with rfl | rfl; exact c4; exact c5) z) k9
      refine ⟨_, rfl, _, rfl, d, r1, ms1, ls1, gv1, ts1, i, rfl, ob9, hi, few1, fun r2 HA mdA nA fA => ?_⟩
      obtain ⟨M2, x2, gr2, fr2, kt2⟩ := OneX.bp oa9 f9 c1 c2 c4 c6 d9 mdA nA fA
      have rl := readyT_le ls1 i ts1
      exact ⟨m - 1, by omega, M2, r2, _, _, _, _, _, _, rfl, x2, go2.trans ⟨gr2, fr2, kt2⟩, by rw [inl_len (by omega)]; omega, by omega, by omega⟩
    · have hfull : ms1.length = 200 := by
        have : ¬ (((xs1.length : Nat) : Int) < 200) := fun z => hlt (decide_eq_true z)
        omega
      refine ⟨_, rfl, by decide, by decide, ?_⟩
      clear oa1 ob1 c1 c2 c3 c4 c5 c6 c7 h1 h2 h3 h4 h5 e1 row1 y1 hx1 nl hlt
      refine for_range (lo := 0) (fun k σ H' => ∃ (M' : Addr → Prop) (r' : Addr) (ms' ls' : List Nat) (gv' ts' : Nat) (y5 : Option V), σ = [some (.ref o), some (.ref d), some (.int way), y3, y4, y5] ∧ OneX M' H' C o d r' ms' ls' gv' ts' ∧ Go M H M' H' ∧ ms'.length = 200 ∧ gv' ≤ 900 + k ∧ ts' ≤ 900 + k)
        ⟨M1, r1, ms1, ls1, gv1, ts1, none, rfl, x1, go1, hfull, by omega, by omega⟩ (fun k σ H2 hk hP => ?_) (fun σ H2 hP => ?_)
      · obtain ⟨M2, r2, ms2, ls2, gv2, ts2, y5, rfl, x2, go2, f2, l4, l5⟩ := hP
        replace hk : k < 3 := hk
        refine ⟨_, rfl, _, rfl, M2, o, d, r2, ms2, ls2, gv2, ts2, rfl, x2, f2, by omega, by omega, fun H3 s3 => ⟨_, rfl, iteF ?_⟩⟩
        have x3 := x2.same s3
        have go3 := go2.trans (Go.same (M := M2) s3)
        obtain ⟨N1, oa1, ob1, c1, c2, c3, c4, c5, c6, c7⟩ := x3
        have ob2 := ob1
        obtain ⟨kv1, h1, h2, h3, h4, h5, xs2, e1, row1⟩ := ob2
        obtain ⟨dx, fs, y1, nl⟩ := oa1.ins
        have hx2 := row1.lm
        obtain ⟨m0, l0, t, g1, g2, g3, g4⟩ := row1.get (i := 199) (by omega)
        refine ⟨_, rfl, o, dx, fs, rfl, y1, nl _ (by decide), _, rfl, d, _, rfl, dgs h1 h3, .inl ⟨rfl, _, SqL.of e1⟩, r2, _, .ref t, rfl, rfl, e1, (by rw [hx2, f2]; exact g3), ?_⟩
        rw [last_er (by omega : 0 < xs2.length), show xs2.length - 1 = 199 from by omega]
        have tr : t ≠ r2 := fun e => by rw [e, e1] at g4; cases g4
        have hdr : d ≠ r2 := fun e => by rw [e, e1] at h1; cases h1
        have k4 : ∀ c u, c ≠ r2 → H3 c = some u → (upd H3 r2 (.lst (xs2.eraseIdx 199))) c = some u := fun c u hc z => by
          rw [upd_ne hc]
          exact z
        have r4 : (upd H3 r2 (.lst (xs2.eraseIdx 199))) r2 = some (.lst (xs2.eraseIdx 199)) := upd_same
        generalize upd H3 r2 (.lst (xs2.eraseIdx 199)) = H4 at *
        have t4 : KT H3 H4 := fun c ys z => k4 c _ (fun e => by rw [e, e1] at z; cases z) z
        refine ⟨t, _, _, num m0, rfl, rfl, SqT.of (k4 _ _ tr g4), rfl, N1, o, ms2, ls2, gv2, ts2, 199, m0, rfl, oa1.kp (fun c u hc z => k4 c u (fun e => c5 (e ▸ hc)) z), g1, by omega, fun H5 oa5 f5 => ?_⟩
        have t5 : KT H3 H5 := fun c ys z => f5 c _ (c6 c ys z) (t4 c ys z)
        have d5 := f5 _ _ c4 (k4 _ _ hdr h1)
        have r5 := f5 _ _ c5 r4
        have x5 : OneX M2 H5 C o d r2 (ms2.eraseIdx 199) (ls2.eraseIdx 199) gv2 ts2 := .mk' oa5 ⟨kv1, d5, h2, h3, h4, h5, _, r5, (row1.erase (by omega)).kp t5⟩ c1 c2 c3 c4 c5
        have le5 : (ms2.eraseIdx 199).length = 199 := by rw [er_len (by omega)]; omega
        have go5 : Go M H M2 H5 := go3.trans ⟨fun c h => .inl h, fun c u hc z => f5 _ _ (fun e => hc (c1 _ e)) (k4 _ _ (fun e => hc (e ▸ c3)) z), t5⟩
        clear go3 go2 oa1 ob1 c1 c2 c3 c4 c5 c6 c7 h1 h2 h3 h4 h5 e1 row1 y1 nl hx2 r5 d5 oa5 f5 r4 k4 t4 g1 g2 g3 g4 tr
        generalize ms2.eraseIdx 199 = ms3 at *
        generalize ls2.eraseIdx 199 = ls3 at *
        obtain ⟨N1, oa1, ob1, c1, c2, c3, c4, c5, c6, c7⟩ := x5
        have ob2 := ob1
        obtain ⟨kv1, h1, h2, h3, h4, h5, xs2, e1, row1⟩ := ob2
        obtain ⟨dx, fs, y1, nl⟩ := oa1.ins
        obtain ⟨m0, l0, t, g1, g2, g3, g4⟩ := row1.get (i := 0) (by omega)
        refine ⟨_, rfl, o, dx, fs, rfl, y1, nl _ (by decide), _, rfl, d, _, rfl, dgs h1 h3, r2, _, _, _, rfl, rfl, SqL.of e1, (show atI _ ((0 : Nat) : Int) = _ from atI_nat g3), t, _, _, num m0, rfl, rfl, SqT.of g4, rfl, N1, o, ms3, ls3, gv2, ts2, 0, m0, rfl, oa1, g1, by omega, by omega, fun H9 oa9 f9 => ?_⟩
        have d9 := f9 _ _ c4 h1
        have k9 : KT H5 H9 := fun c ys z => f9 c _ (c6 c ys z) z
        have ob9 : Mod H9 d r2 ms3 ls3 gv2 ts2 := ob1.kp (fun c u hc z => f9 c u (by rcases hc with rfl | rfl; exact c4; exact c5) z) k9
        refine ⟨_, rfl, d, r2, ms3, ls3, gv2, ts2, 0, rfl, ob9, by omega, by omega, fun r3 HA mdA nA fA => ?_⟩
        obtain ⟨M3, x6, gr6, fr6, kt6⟩ := OneX.bp oa9 f9 c1 c2 c4 c6 d9 mdA nA fA
        have rl := readyT_le ls3 0 ts2
        exact ⟨M3, r3, _, _, _, _, _, rfl, x6, go5.trans ⟨gr6, fr6, kt6⟩, by rw [inl_len (by omega)]; omega, by omega, by omega⟩
      · obtain ⟨M2, r2, ms2, ls2, gv2, ts2, y5, rfl, x2, go2, f2, l4, l5⟩ := hP
        replace l4 : gv2 ≤ 903 := l4
        replace l5 : ts2 ≤ 903 := l5
        obtain ⟨N1, oa1, ob1, c1, c2, c3, c4, c5, c6, c7⟩ := x2
        refine ⟨_, rfl, _, rfl, N1, o, d, r2, ms2, ls2, gv2, ts2, rfl, oa1, ob1, by omega, by omega, fun H3 s3 => q H3 M2 (go2.trans (Go.same s3))⟩
end
end K13
set_option maxHeartbeats 1000000
namespace K13
open PySem PySem.Spec PyProof.Rows L2 Gd Gx
open C8 (clsBody Met pe_mt pe_mt0)
def One (M : Addr → Prop) (H : Hp) (C o d : Addr) (cap : Nat) : Prop := ∃ (r : Addr) (ms ls : List Nat) (gv ts : Nat), OneX M H C o d r ms ls gv ts ∧ ms.length ≤ cap ∧ gv ≤ cap ∧ ts ≤ cap
theorem One.kp {M : Addr → Prop} {H H' : Hp} {C o d : Addr} {cap : Nat} (h : One M H C o d cap) (k : ∀ c u, M c → H c = some u → H' c = some u) (t : KT H H') : One M H' C o d cap := by
  obtain ⟨r, ms, ls, gv, ts, x, a⟩ := h
  exact ⟨r, ms, ls, gv, ts, x.kp k t, a⟩
theorem One.up {M : Addr → Prop} {H : Hp} {C o d : Addr} {n m : Nat} (h : One M H C o d n) (k : n ≤ m) : One M H C o d m := by
  obtain ⟨r, ms, ls, gv, ts, x, a, b, c⟩ := h
  exact ⟨r, ms, ls, gv, ts, x, by omega, by omega, by omega⟩
theorem One.cut {M : Addr → Prop} {H : Hp} {C o d : Addr} {cap : Nat} (h : One M H C o d cap) : One (fun c => M c ∧ H c ≠ none) H C o d cap := by
  obtain ⟨r, ms, ls, gv, ts, x, a⟩ := h
  exact ⟨r, ms, ls, gv, ts, x.sub fun c h1 h2 => ⟨h2, h1⟩, a⟩
structure Two (H0 H : Hp) (C Lo Lm : Addr) (M : Nat → Addr → Prop) (o d : Nat → Addr) (cap : Nat) : Prop where
  lo : H Lo = some (.lst [.ref (o 0), .ref (o 1)])
  lm : H Lm = some (.lst [.ref (d 0), .ref (d 1)])
  one : ∀ j, j < 2 → One (M j) H C (o j) (d j) cap
  dis : ∀ i j c, i < 2 → j < 2 → i ≠ j → M i c → ¬ M j c
  no : ∀ j, j < 2 → ¬ M j Lo
  nm : ∀ j, j < 2 → ¬ M j Lm
  ne : Lo ≠ Lm
  sm : Same H0 H
  fr : ∀ j, j < 2 → ∀ c, M j c → H0 c = none
  flo : H0 Lo = none
  flm : H0 Lm = none
section
variable {H0 H H' : Hp} {C Lo Lm : Addr} {M : Nat → Addr → Prop} {o d : Nat → Addr} {cap : Nat}
theorem Two.kp (t : Two H0 H C Lo Lm M o d cap) {b : Addr} (nb : ∀ j, j < 2 → ¬ M j b) (l1 : Lo ≠ b) (l2 : Lm ≠ b) (fb : H0 b = none) (k : ∀ c u, c ≠ b → H c = some u → H' c = some u) (kt : KT H H') : Two H0 H' C Lo Lm M o d cap :=
  ⟨k _ _ l1 t.lo, k _ _ l2 t.lm, fun j hj => (t.one j hj).kp (fun c u hc z => k c u (fun e => nb j hj (e ▸ hc)) z) kt, t.dis, t.no, t.nm, t.ne, fun c u z => k c u (ne_of_none z fb) (t.sm c u z), t.fr, t.flo, t.flm⟩
theorem Two.same (t : Two H0 H C Lo Lm M o d cap) (s : Same H H') : Two H0 H' C Lo Lm M o d cap :=
  ⟨s _ _ t.lo, s _ _ t.lm, fun j hj => (t.one j hj).kp (fun c u _ z => s c u z) (KT.of s), t.dis, t.no, t.nm, t.ne, t.sm.trans s, t.fr, t.flo, t.flm⟩
theorem Two.cut (t : Two H0 H C Lo Lm M o d cap) : Two H0 H C Lo Lm (fun j c => M j c ∧ H c ≠ none) o d cap :=
  ⟨t.lo, t.lm, fun j hj => (t.one j hj).cut, fun i j c hi hj e h1 h2 => t.dis i j c hi hj e h1.1 h2.1, fun j hj z => t.no j hj z.1, fun j hj z => t.nm j hj z.1, t.ne, t.sm, fun j hj c z => t.fr j hj c z.1, t.flo, t.flm⟩
theorem Two.mk2 {A B : Addr → Prop} {o0 o1 d0 d1 : Addr} (lo : H Lo = some (.lst [.ref o0, .ref o1])) (lm : H Lm = some (.lst [.ref d0, .ref d1])) (one0 : One A H C o0 d0 cap) (one1 : One B H C o1 d1 cap) (dis : ∀ c, A c → ¬ B c)
    (nA : ¬ A Lo) (nB : ¬ B Lo) (mA : ¬ A Lm) (mB : ¬ B Lm) (ne : Lo ≠ Lm) (sm : Same H0 H) (fA : ∀ c, A c → H0 c = none) (fB : ∀ c, B c → H0 c = none) (flo : H0 Lo = none) (flm : H0 Lm = none) :
    Two H0 H C Lo Lm (fun j c => if j = 0 then A c else B c) (fun j => if j = 0 then o0 else o1) (fun j => if j = 0 then d0 else d1) cap := by
  refine ⟨lo, lm, fun j hj => ?_, fun i j c hi hj e h1 h2 => ?_, fun j hj z => ?_, fun j hj z => ?_, ne, sm, fun j hj c z => ?_, flo, flm⟩
  · rcases (by omega : j = 0 ∨ j = 1) with rfl | rfl
    · exact one0
    · exact one1
  · rcases (by omega : i = 0 ∧ j = 1 ∨ i = 1 ∧ j = 0) with ⟨rfl, rfl⟩ | ⟨rfl, rfl⟩
    · exact dis c h1 h2
    · exact dis c h2 h1
  · rcases (by omega : j = 0 ∨ j = 1) with rfl | rfl
    · exact nA z
    · exact nB z
  · rcases (by omega : j = 0 ∨ j = 1) with rfl | rfl
    · exact mA z
    · exact mB z
  · rcases (by omega : j = 0 ∨ j = 1) with rfl | rfl
    · exact fA c z
    · exact fB c z
/-- behind a step at one of them -/
theorem Two.step (t : Two H0 H C Lo Lm M o d cap) (hc : ∀ j, j < 2 → ∀ c, M j c → H c ≠ none) {i : Nat} (hi : i < 2) {b : Addr} (hb : H b ≠ none) (nb : ∀ j, j < 2 → ¬ M j b) (l1 : Lo ≠ b) (l2 : Lm ≠ b) (fb : H0 b = none) {M' : Addr → Prop} {cap' : Nat} (le : cap ≤ cap')
    (h : One M' H' C (o i) (d i) cap') (gr : ∀ c, M' c → M i c ∨ H c = none) (k : ∀ c u, ¬ M i c → c ≠ b → H c = some u → H' c = some u) (kt : KT H H') :
    ∃ M2 : Nat → Addr → Prop, Two H0 H' C Lo Lm M2 o d cap' ∧ ∀ j, j < 2 → ¬ M2 j b := by
  have nn : ∀ c, H c ≠ none → ¬ M i c → ¬ M' c := fun c h1 h2 h3 => by
    rcases gr c h3 with h3 | h3
    · exact h2 h3
    · exact h1 h3
  have xlo : H Lo ≠ none := by rw [t.lo]; simp
  have xlm : H Lm ≠ none := by rw [t.lm]; simp
  refine ⟨fun j c => if j = i then M' c else M j c, ⟨k _ _ (t.no i hi) l1 t.lo, k _ _ (t.nm i hi) l2 t.lm, fun j hj => ?_, fun a j c ha hj e h1 h2 => ?_, fun j hj z => ?_, fun j hj z => ?_, t.ne, fun c u z => k c u (fun y => by rw [t.fr i hi c y] at z; cases z) (ne_of_none z fb) (t.sm c u z), fun j hj c z => ?_, t.flo, t.flm⟩, fun j hj z => ?_⟩
  · by_cases e : j = i
    · subst e
      simp only [if_true]
      exact h
    · simp only [e, if_false]
      exact ((t.one j hj).kp (fun c u hc z => k c u (t.dis j i c hj hi e hc) (fun e => nb j hj (e ▸ hc)) z) kt).up le
  · by_cases e1 : a = i
    · by_cases e2 : j = i
      · exact e (e1.trans e2.symm)
      · simp only [e1, if_true] at h1
        simp only [e2, if_false] at h2
        exact nn c (hc j hj c h2) (t.dis j i c hj hi e2 h2) h1
    · by_cases e2 : j = i
      · simp only [e1, if_false] at h1
        simp only [e2, if_true] at h2
        exact nn c (hc a ha c h1) (t.dis a i c ha hi e1 h1) h2
      · simp only [e1, if_false] at h1
        simp only [e2, if_false] at h2
        exact t.dis a j c ha hj e h1 h2
  · by_cases e : j = i
    · simp only [e, if_true] at z
      exact nn Lo xlo (t.no i hi) z
    · simp only [e, if_false] at z
      exact t.no j hj z
  · by_cases e : j = i
    · simp only [e, if_true] at z
      exact nn Lm xlm (t.nm i hi) z
    · simp only [e, if_false] at z
      exact t.nm j hj z
  · by_cases e : j = i
    · simp only [e, if_true] at z
      rcases gr c z with z | z
      · exact t.fr i hi c z
      · exact none_of' t.sm z
    · simp only [e, if_false] at z
      exact t.fr j hj c z
  · by_cases e : j = i
    · simp only [e, if_true] at z
      exact nn b hb (nb i hi) z
    · simp only [e, if_false] at z
      exact nb j hj z
theorem Two.copy (t : Two H0 H C Lo Lm M o d cap) (hc : ∀ j, j < 2 → ∀ c, M j c → H c ≠ none) {i : Nat} (hi : i < 2) {B : Addr → Prop} {u p : Addr} (nw : One B H' C u p cap) (fB : ∀ c, B c → H c = none)
    (e1 : H' Lo = some (.lst ([V.ref (o 0), V.ref (o 1)].set (1 - i) (.ref u)))) (e2 : H' Lm = some (.lst ([V.ref (d 0), V.ref (d 1)].set (1 - i) (.ref p)))) (k : ∀ c x, c ≠ Lo → c ≠ Lm → H c = some x → H' c = some x)
    {b : Addr} (hb : H b ≠ none) (nb : ∀ j, j < 2 → ¬ M j b) : ∃ M' o' d', Two H0 H' C Lo Lm M' o' d' cap ∧ ∀ j, j < 2 → ¬ M' j b := by
  have kt : KT H H' := fun c ys z => k c _ (fun e => by rw [e, t.lo] at z; cases z) (fun e => by rw [e, t.lm] at z; cases z) z
  have old : One (M i) H' C (o i) (d i) cap := (t.one i hi).kp (fun c x h z => k c x (fun e => t.no i hi (e ▸ h)) (fun e => t.nm i hi (e ▸ h)) z) kt
  have sm : Same H0 H' := fun c x z => k c x (ne_of_none z t.flo) (ne_of_none z t.flm) (t.sm c x z)
  have dis : ∀ c, M i c → ¬ B c := fun c h1 h2 => hc i hi c h1 (fB c h2)
  have b1 : ¬ B Lo := fun h => by
    have := fB _ h
    rw [t.lo] at this
    cases this
  have b2 : ¬ B Lm := fun h => by
    have := fB _ h
    rw [t.lm] at this
    cases this
  have f0 : ∀ c, B c → H0 c = none := fun c h => none_of' t.sm (fB c h)
  rcases (by omega : i = 0 ∨ i = 1) with rfl | rfl
  · refine ⟨_, _, _, Two.mk2 e1 e2 old nw dis (t.no 0 hi) b1 (t.nm 0 hi) b2 t.ne sm (t.fr 0 hi) f0 t.flo t.flm, fun j hj z => ?_⟩
    rcases (by omega : j = 0 ∨ j = 1) with rfl | rfl
    · exact nb 0 hi z
    · exact hb (fB b z)
  · refine ⟨_, _, _, Two.mk2 e1 e2 nw old (fun c h1 h2 => dis c h2 h1) b1 (t.no 1 hi) b2 (t.nm 1 hi) t.ne sm f0 (t.fr 1 hi) t.flo t.flm, fun j hj z => ?_⟩
    rcases (by omega : j = 0 ∨ j = 1) with rfl | rfl
    · exact hb (fB b z)
    · exact nb 1 hi z
end
theorem at2 {f : Nat → Addr} {i : Nat} (hi : i < 2) : atI [V.ref (f 0), V.ref (f 1)] ((i : Nat) : Int) = some (.ref (f i)) := by
  rcases (by omega : i = 0 ∨ i = 1) with rfl | rfl
  · rfl
  · rfl
theorem mod_mk {H : Hp} {p q : Addr} {ms ls : List Nat} {gv ts : Nat} (e1 : H p = some (.dK (mergeK [] [(kr, .ref q), (kg, num gv), (km, num ts)]))) (e2 : Row H q ms ls) : Mod H p q ms ls gv ts :=
  ⟨_, e1, rfl, valV_pos rfl, (valV_neg (show ¬ kr = kg by decide)).trans (valV_pos rfl), (valV_neg (show ¬ kr = km by decide)).trans ((valV_neg (show ¬ kg = km by decide)).trans (valV_pos rfl)), e2⟩
theorem lay_mod {H p t q} (hp : H p = none) (ht : (upd H p (.dK [])) t = none) (hq : (upd (upd H p (.dK [])) t (.tup [.int 0, .int 0])) q = none) :
    (upd (upd (upd H p (.dK [])) t (.tup [.int 0, .int 0])) q (.lst [.ref t])) p = some (.dK []) ∧ H q = none ∧
    Same H (upd (upd (upd (upd H p (.dK [])) t (.tup [.int 0, .int 0])) q (.lst [.ref t])) p (.dK (mergeK [] [(kr, .ref q), (kg, .int 1), (km, .int 0)]))) ∧
    Mod (upd (upd (upd (upd H p (.dK [])) t (.tup [.int 0, .int 0])) q (.lst [.ref t])) p (.dK (mergeK [] [(kr, .ref q), (kg, .int 1), (km, .int 0)]))) p q [0] [0] 1 0 := by
  have pt : p ≠ t := fun e => by rw [← e, upd_same] at ht; cases ht
  have qt : q ≠ t := fun e => by rw [e, upd_same] at hq; cases hq
  rw [upd_ne qt] at hq
  have qp : q ≠ p := fun e => by rw [e, upd_same] at hq; cases hq
  rw [upd_ne qp] at hq
  rw [upd_ne pt.symm] at ht
  refine ⟨by rw [upd_ne qp.symm, upd_ne pt, upd_same], hq, fun c u z => ?_, mod_mk upd_same ⟨[.ref t], ?_, rfl, rfl, fun i m l e1 e2 => ?_⟩⟩
  · rw [upd_ne (ne_of_none z hp), upd_ne (ne_of_none z hq), upd_ne (ne_of_none z ht), upd_ne (ne_of_none z hp)]
    exact z
  · rw [upd_ne qp, upd_same]
  · rcases i with _ | i
    · cases (Option.some.inj e1)
      cases (Option.some.inj e2)
      refine ⟨t, rfl, ?_⟩
      rw [upd_ne pt.symm, upd_ne qt.symm, upd_same]
      rfl
    · cases e1
section
variable {P : Program} {w : World} {K : PySem.W.Frag} {mg : Str → Option Value} {base : Heap} {C : Addr}
def spLaw (K : PySem.W.Frag) : Sp := fun vs H Q _ => ∃ (a : Addr) (ns : List Int), vs = [.ref a] ∧ SqL K H a (ns.map V.int) ∧ ns.length ≤ 63 ∧ ∀ H', Q (.bl true) H'
theorem ok_law {fO : Addr} {fdO : FuncData} (T : Txt K mg) (OC : OrdC K C) {f : Addr} {fd : FuncData} (F : Fun K "law" "law" s_law f fd) (cO : mg "Order" = some (.ref C)) (M_Order : Mk K C fO) (B_Order : Binds K fdO ["self"] []) (G_Order : FnOk P w K mg base CX0 1 fO fdO ["self"] (spInit C)) (m_copied : Met P w K mg base 3 C "copied" (spCopied C) []) (c__law_cell_at : CalG P w K mg base 1 "_law_cell_at" (Gd.spCell K)) (c__law_box : CalG P w K mg base 1 "_law_box" spBoxD) (c__law_take : CalG P w K mg base 1 "_law_take" spTakeD) (c__law_step : CalG P w K mg base 4 "_law_step" (spStep C)) (c__law_right : CalG P w K mg base 4 "_law_right" (spRight C)) (c__law_full : CalG P w K mg base 6 "_law_full" (spLFull C)) : FnG P w K mg base CX0 7 f fd ["_law_script"] (spLaw K) := by
  refine okG F sc_law (fun vs H Q E h => ?_) (fun cdv A outer s H vs Q E hG hr h => ?_)
  · obtain ⟨a, ns, rfl, _⟩ := h
    rfl
  · obtain ⟨a, ns, rfl, hS, hl, q⟩ := h
    refine ⟨_, (pss_cons (ps_set (i := 1) sc_law.nd rfl (Or.inl rfl) (pe_lst (pa_cons (pe_make0 M_Order G_Order (hr.mono (by decide)) rfl cO B_Order .nil pass0) (pa_cons (pe_make0 M_Order G_Order (hr.mono (by decide)) rfl cO B_Order .nil pass0) pa_nil))))
      (pss_cons (ps_set (i := 2) sc_law.nd rfl (Or.inl rfl) (pe_lst (pa_cons (pe_disp (pps_cons pe_str (pe_lst (pa_cons (pe_tup (pa_cons pe_int (pa_cons pe_int pa_nil))) pa_nil)) (pps_cons pe_str pe_int (pps_cons pe_str pe_int pps_nil))) (by rfl) (by rfl) (fun z => by cases z) (by decide)) (pa_cons (pe_disp (pps_cons pe_str (pe_lst (pa_cons (pe_tup (pa_cons pe_int (pa_cons pe_int pa_nil))) pa_nil)) (pps_cons pe_str pe_int (pps_cons pe_str pe_int pps_nil))) (by rfl) (by rfl) (fun z => by cases z) (by decide)) pa_nil))))
      (pss_cons (ps_for PassesOwn.never rfl (pi_range1 rfl T.b_range (pa_cons (pe_callB (call_max2 rfl) (by rfl) T.b_max boot_max_ (pa_cons pe_int (pa_cons (pe_callB (call_min2 rfl) (by rfl) T.b_min boot_min_ (pa_cons pe_int (pa_cons (pe_callB call_len (by rfl) T.b_len boot_len_ (pa_cons (pv 0) pa_nil)) pa_nil))) pa_nil))) pa_nil)) (pg_name (i := 3) sc_law.nd rfl (Or.inl rfl))
          (pss_cons (ps_set (i := 4) sc_law.nd rfl (Or.inl rfl) (pe_g c__law_box hG (hr.mono (by decide)) (by rfl) (pa_cons (pe_g c__law_cell_at hG (hr.mono (by decide)) (by rfl) (pa_cons (pv 0) (pa_cons (pv 3) pa_nil))) pa_nil)))
          (pss_cons (ps_set (i := 5) sc_law.nd rfl (Or.inl rfl) (pe_g c__law_take hG (hr.mono (by decide)) (by rfl) (pa_cons (pv 4) (pa_cons pe_int pa_nil))))
          (pss_cons (ps_set (i := 6) sc_law.nd rfl (Or.inl rfl) (pe_cmpR op_eq (pe_g c__law_take hG (hr.mono (by decide)) (by rfl) (pa_cons (pv 4) (pa_cons pe_int pa_nil))) pe_int (nomark _)))
          (pss_cons (ps_expr (pe_g c__law_step hG (hr.mono (by decide)) (by rfl) (pa_cons (pv 4) (pa_cons (pe_ix ix_list (pv 1) (pv 5) (fun _ _ => rfl)) (pa_cons (pe_ix ix_list (pv 2) (pv 5) (fun _ _ => rfl)) pa_nil)))))
          (pss_cons (ps_if (pt_val (pv 6))
              (pss_cons (ps_asg (pe_mt0 m_copied hr (by decide) (pe_ix ix_list (pv 1) (pv 5) (fun _ _ => rfl))) (pg_sub (pv 1) (pe_op op_sub pe_int (pv 5)) set_list))
              (pss_cons (ps_asg (pe_callTy call_dictD (by rfl) T.t_dict boot_dict_ (pa_cons (pe_ix ix_list (pv 2) (pv 5) (fun _ _ => rfl)) pa_nil)) (pg_sub (pv 2) (pe_op op_sub pe_int (pv 5)) set_list))
              (pss_one (ps_dput (hu_of hr) (pe_ix ix_list (pv 2) (pe_op op_sub pe_int (pv 5)) (fun _ _ => rfl)) pe_str (pe_callTy call_list_of (by rfl) T.t_list boot_list_ (pa_cons (pe_dget (hu_of hr) (pe_ix ix_list (pv 2) (pv 5) (fun _ _ => rfl)) pe_str (fun _ _ => rfl)) pa_nil)) rfl)))) pss_nil)
          (pss_one (ps_if (PW.pt (pw_or (pt_not (pt_val (pe_g c__law_right hG (hr.mono (by decide)) (by rfl) (pa_cons (pe_ix ix_list (pv 1) pe_int (fun _ _ => rfl)) (pa_cons (pe_ix ix_list (pv 2) pe_int (fun _ _ => rfl)) pa_nil))))) (pw_or1 (pt_not (pt_val (pe_g c__law_right hG (hr.mono (by decide)) (by rfl) (pa_cons (pe_ix ix_list (pv 1) pe_int (fun _ _ => rfl)) (pa_cons (pe_ix ix_list (pv 2) pe_int (fun _ _ => rfl)) pa_nil))))))))
              (pss_one (ps_ret pe_bl)) pss_nil))))))))
      (pss_cons (ps_if (pt_cmpR op_eq (pe_op op_mod (pe_g c__law_cell_at hG (hr.mono (by decide)) (by rfl) (pa_cons (pv 0) (pa_cons pe_int pa_nil))) pe_int) pe_int (nomark _))
          (pss_cons (ps_set (i := 7) sc_law.nd rfl (Or.inl rfl) (pe_callTy call_int1 (by rfl) T.t_int boot_int_ (pa_cons (pe_op op_mod (pe_op op_fdiv (pe_g c__law_cell_at hG (hr.mono (by decide)) (by rfl) (pa_cons (pv 0) (pa_cons pe_int pa_nil))) pe_int) pe_int) pa_nil)))
          (pss_one (ps_ret (pe_and (pe_g c__law_full hG (hr.mono (by decide)) (by rfl) (pa_cons (pe_ix ix_list (pv 1) pe_int (fun _ _ => rfl)) (pa_cons (pe_ix ix_list (pv 2) pe_int (fun _ _ => rfl)) (pa_cons (pv 7) pa_nil)))) (pe_one (pe_g c__law_right hG (hr.mono (by decide)) (by rfl) (pa_cons (pe_ix ix_list (pv 1) pe_int (fun _ _ => rfl)) (pa_cons (pe_ix ix_list (pv 2) pe_int (fun _ _ => rfl)) pa_nil)))))))) pss_nil)
      (pss_one (ps_ret pe_bl)))))), ?_⟩
    -- the two orders
    intro u du n1 n2 ne1
    refine ⟨u, du, rfl, upd_same, fun H1 N1 r1 k1 f1 => ⟨rfl, ?_⟩⟩
    have s1 : Same H H1 := fun c x z => k1 c x (ne_of_none z n1) (by rw [upd_ne (ne_of_none z n1), upd_ne (ne_of_none z n2)]; exact z)
    have g1 : ∀ c, N1 c → H c = none := fun c hc => by
      rcases f1 c hc with rfl | h
      · exact n1
      · exact none_of' (fun c x z => by rw [upd_ne (ne_of_none z n1), upd_ne (ne_of_none z n2)]; exact z) h
    intro u2 du2 m1 m2 ne2
    refine ⟨u2, du2, rfl, upd_same, fun H2 N2 r2 k2 f2 => ⟨rfl, ?_⟩⟩
    have s2 : Same H1 H2 := fun c x z => k2 c x (ne_of_none z m1) (by rw [upd_ne (ne_of_none z m1), upd_ne (ne_of_none z m2)]; exact z)
    have g2 : ∀ c, N2 c → H1 c = none := fun c hc => by
      rcases f2 c hc with rfl | h
      · exact m1
      · exact none_of' (fun c x z => by rw [upd_ne (ne_of_none z m1), upd_ne (ne_of_none z m2)]; exact z) h
    have r1 := r1.cut
    have r2 := r2.cut
    refine ⟨(by show 2 ≤ sizeLine; decide), fun Lo hLo => ?_⟩
    have s3 : Same H2 (upd H2 Lo (.lst [.ref u, .ref u2])) := same_new hLo
    have eLo : (upd H2 Lo (.lst [.ref u, .ref u2])) Lo = some (.lst [.ref u, .ref u2]) := upd_same
    have r1 := r1.kp (H' := upd H2 Lo (.lst [.ref u, .ref u2])) fun c x _ z => s3 _ _ (s2 _ _ z)
    have r2 := r2.kp (H' := upd H2 Lo (.lst [.ref u, .ref u2])) fun c x _ z => s3 _ _ z
    generalize upd H2 Lo (.lst [.ref u, .ref u2]) = H3 at *
    -- the first dict
    intro p1 hp1
    refine ⟨(by show 2 ≤ sizeLine; decide), fun t1 ht1 => ⟨(by show 1 ≤ sizeLine; decide), fun q1 hq1 => ?_⟩⟩
    obtain ⟨pd1, fq1, s4, M1⟩ := lay_mod hp1 ht1 hq1
    refine ⟨pd1, [(kr, .ref q1), (kg, .int 1), (km, .int 0)], rfl, (by show 3 ≤ 15; decide), ?_⟩
    clear pd1 ht1 hq1
    generalize upd (upd (upd (upd H3 p1 (.dK [])) t1 (.tup [V.int 0, V.int 0])) q1 (.lst [V.ref t1])) p1 (.dK (mergeK [] [(kr, V.ref q1), (kg, V.int 1), (km, V.int 0)])) = H4 at *
    -- the second dict
    intro p2 hp2
    refine ⟨(by show 2 ≤ sizeLine; decide), fun t2 ht2 => ⟨(by show 1 ≤ sizeLine; decide), fun q2 hq2 => ?_⟩⟩
    obtain ⟨pd2, fq2, s5, M2⟩ := lay_mod hp2 ht2 hq2
    refine ⟨pd2, [(kr, .ref q2), (kg, .int 1), (km, .int 0)], rfl, (by show 3 ≤ 15; decide), ?_⟩
    clear pd2 ht2 hq2
    generalize upd (upd (upd (upd H4 p2 (.dK [])) t2 (.tup [V.int 0, V.int 0])) q2 (.lst [V.ref t2])) p2 (.dK (mergeK [] [(kr, V.ref q2), (kg, V.int 1), (km, V.int 0)])) = H5 at *
    refine ⟨(by show 2 ≤ sizeLine; decide), fun Lm hLm => ?_⟩
    have s6 : Same H5 (upd H5 Lm (.lst [.ref p1, .ref p2])) := same_new hLm
    have eLm : (upd H5 Lm (.lst [.ref p1, .ref p2])) Lm = some (.lst [.ref p1, .ref p2]) := upd_same
    generalize upd H5 Lm (.lst [.ref p1, .ref p2]) = H6 at *
    have s36 := (s4.trans s5).trans s6
    have s03 := (s1.trans s2).trans s3
    have M10 := M1
    have M20 := M2
    obtain ⟨ka, a1, a2, a3, a4, a5, xa, a6, a7⟩ := M10
    obtain ⟨kb, b1, b2, b3, b4, b5, xb, b6, b7⟩ := M20
    have fp2 := none_of' s4 hp2
    have fq2' := none_of' s4 fq2
    have fLm3 : H3 Lm = none := none_of' (s4.trans s5) hLm
    have t : Two H H6 C Lo Lm (fun j c => if j = 0 then ((N1 c ∧ H1 c ≠ none) ∨ c = p1 ∨ c = q1) else ((N2 c ∧ H2 c ≠ none) ∨ c = p2 ∨ c = q2)) (fun j => if j = 0 then u else u2) (fun j => if j = 0 then p1 else p2) 1 := by
      refine Two.mk2 (s36 _ _ eLo) eLm
        ⟨q1, [0], [0], 1, 0, .mk' (r1.kp fun c x _ z => s36 _ _ z) ((M1.same s5).same s6) (fun c h => .inl h) (.inr (.inl rfl)) (.inr (.inr rfl)) (fun z => z.2 (none_of' (s2.trans s3) hp1)) (fun z => z.2 (none_of' (s2.trans s3) fq1)), by decide, by decide, by decide⟩
        ⟨q2, [0], [0], 1, 0, .mk' (r2.kp fun c x _ z => s36 _ _ z) (M2.same s6) (fun c h => .inl h) (.inr (.inl rfl)) (.inr (.inr rfl)) (fun z => z.2 (none_of' s3 fp2)) (fun z => z.2 (none_of' s3 fq2')), by decide, by decide, by decide⟩ (fun c h1 h2 => ?_) (fun h => ?_) (fun h => ?_) (fun h => ?_) (fun h => ?_) (ne_of_none eLo fLm3) (s03.trans s36) (fun c h => ?_) (fun c h => ?_) (none_of' (s1.trans s2) hLo) (none_of' s03 fLm3)
      · rcases h1 with h1 | rfl | rfl
        · rcases h2 with h2 | rfl | rfl
          · exact h1.2 (g2 c h2.1)
          · exact h1.2 (none_of' (s2.trans s3) fp2)
          · exact h1.2 (none_of' (s2.trans s3) fq2')
        · rcases h2 with h2 | rfl | rfl
          · exact h2.2 (none_of' s3 hp1)
          · rw [a1] at hp2
            cases hp2
          · rw [a1] at fq2
            cases fq2
        · rcases h2 with h2 | rfl | rfl
          · exact h2.2 (none_of' s3 fq1)
          · rw [a6] at hp2
            cases hp2
          · rw [a6] at fq2
            cases fq2
      · rcases h with h | rfl | rfl
        · exact h.2 (none_of' s2 hLo)
        · rw [eLo] at hp1
          cases hp1
        · rw [eLo] at fq1
          cases fq1
      · rcases h with h | rfl | rfl
        · exact h.2 hLo
        · rw [eLo] at fp2
          cases fp2
        · rw [eLo] at fq2'
          cases fq2'
      · rcases h with h | rfl | rfl
        · exact h.2 (none_of' (s2.trans s3) fLm3)
        · rw [s5 _ _ a1] at hLm
          cases hLm
        · rw [s5 _ _ a6] at hLm
          cases hLm
      · rcases h with h | rfl | rfl
        · exact h.2 (none_of' s3 fLm3)
        · rw [b1] at hLm
          cases hLm
        · rw [b6] at hLm
          cases hLm
      · rcases h with h | rfl | rfl
        · exact g1 c h.1
        · exact none_of' s03 hp1
        · exact none_of' s03 fq1
      · rcases h with h | rfl | rfl
        · exact none_of' s1 (g2 c h.1)
        · exact none_of' s03 fp2
        · exact none_of' s03 fq2'
    generalize (fun (j : Nat) (c : Addr) => if j = 0 then ((N1 c ∧ H1 c ≠ none) ∨ c = p1 ∨ c = q1) else ((N2 c ∧ H2 c ≠ none) ∨ c = p2 ∨ c = q2)) = M at t
    generalize (fun (j : Nat) => if j = 0 then u else u2) = o at t
    generalize (fun (j : Nat) => if j = 0 then p1 else p2) = d at t
    clear s36 s03 a1 a2 a3 a4 a5 a6 a7 b1 b2 b3 b4 b5 b6 b7 s6 eLm s5 s4 fp2 fq2' fLm3 fq1 fq2 hp1 hp2 r1 r2 g1 g2 s3 eLo s2 s1 hLo hLm k1 k2 f1 f2 M1 M2
    -- the laps
    refine ⟨_, rfl, .ref a, _, rfl, .inl ⟨_, t.sm.seq hS, rfl⟩, _, _, rfl, _, _, rfl, _, rfl, ?_, ?_, ?_⟩
    · split <;> split <;> omega
    · split <;> split <;> omega
    refine for_range (lo := 0) (fun k σ H' => ∃ (M : Nat → Addr → Prop) (o d : Nat → Addr) (y3 y4 y5 y6 y7 : Option V), σ = [some (.ref a), some (.ref Lo), some (.ref Lm), y3, y4, y5, y6, y7] ∧ k ≤ 30 ∧ Two H H' C Lo Lm M o d (1 + 5 * k))
      ⟨M, o, d, none, none, none, none, none, rfl, by omega, t⟩ (fun m σ H1 hm hP => ?_) (fun σ H1 hP => ?_)
    focus
      have hm30 : m < 30 := by
        revert hm
        split <;> split <;> omega
      clear t
      obtain ⟨M0, o, d, y3, y4, y5, y6, y7, rfl, _, t⟩ := hP
      obtain ⟨M, t, al⟩ : ∃ M : Nat → Addr → Prop, Two H H1 C Lo Lm M o d (1 + 5 * m) ∧ ∀ j c, M j c → H1 c ≠ none := ⟨_, t.cut, fun _ _ h => h.2⟩
      refine ⟨_, rfl, _, rfl, a, ns, _, rfl, t.sm.seq hS, hl, by omega, fun z => ⟨z, rfl, fun b H2 hb hB kb => ?_⟩⟩
      have fb : H b = none := none_of' t.sm hb
      have nb : ∀ j, j < 2 → ¬ M j b := fun j _ z => al j b z hb
      have l1 : Lo ≠ b := ne_of_none t.lo hb
      have l2 : Lm ≠ b := ne_of_none t.lm hb
      have tb : ∀ {H1 H2 : Hp} {n : Int}, BoxD H1 b n → (∀ c, c ≠ b → H2 c = H1 c) → KT H1 H2 := fun hB k c ys z => (k c (fun e => by
        obtain ⟨_, _, _, _, hu, _⟩ := hB
        rw [e, hu] at z
        cases z)).trans z
      replace t := t.kp nb l1 l2 fb (fun c u hc z => (kb c hc).trans z) fun c ys z => (kb c (ne_of_none z hb)).trans z
      refine ⟨_, rfl, b, 2, 0, rfl, hB, by decide, by decide, by decide, fun at0 H3 a0 a1 hB3 k3 => ?_⟩
      replace t := t.kp nb l1 l2 fb (fun c u hc z => (k3 c hc).trans z) (tb hB k3)
      refine ⟨_, rfl, b, 4, 0 + 1, rfl, hB3, by decide, by decide, by decide, fun cp H4 c0 c1 hB4 k4 => ⟨rfl, ?_⟩⟩
      replace t := t.kp nb l1 l2 fb (fun c u hc z => (k4 c hc).trans z) (tb hB3 k4)
      obtain ⟨i, rfl⟩ : ∃ i : Nat, at0 = i := ⟨at0.toNat, by omega⟩
      have hi : i < 2 := by omega
      clear al
      obtain ⟨M, t, al, nb⟩ : ∃ M : Nat → Addr → Prop, Two H H4 C Lo Lm M o d (1 + 5 * m) ∧ (∀ j, j < 2 → ∀ c, M j c → H4 c ≠ none) ∧ ∀ j, j < 2 → ¬ M j b := ⟨_, t.cut, fun _ _ _ h => h.2, fun j hj h => nb j hj h.1⟩
      have hb4 : H4 b ≠ none := by
        obtain ⟨u, hu⟩ := hB4.some
        rw [hu]
        simp
      refine ⟨_, rfl, _, rfl, _, rfl, Lo, _, _, .ref (o i), rfl, rfl, SqL.of t.lo, at2 hi, ?_⟩
      refine ⟨_, rfl, _, rfl, Lm, _, _, .ref (d i), rfl, rfl, SqL.of t.lm, at2 hi, ?_⟩
      obtain ⟨r, ms, ls, gv, ts, x, v1, v2, v3⟩ := t.one i hi
      refine ⟨M i, b, o i, d i, r, ms, ls, gv, ts, _, rfl, hB4, by omega, x, nb i hi, by omega, by omega, fun H5 st => ?_⟩
      obtain ⟨M', r', ms', ls', gv', ts', x', gr, hB5, w1, w2, w3, fr, kt⟩ := st
      obtain ⟨M5, t, nb⟩ := t.step al hi hb4 nb l1 l2 fb (Nat.le_add_right _ 5) ⟨r', ms', ls', gv', ts', x', by omega, by omega, by omega⟩ gr fr kt
      clear x x' v1 v2 v3 w1 w2 w3 al hB hB3 hB4 kt fr gr k3 k4 kb
      refine ⟨_, rfl, _, rfl, ?_⟩
      refine ite2 (fun hcp => ?_) (fun hcp => ?_)
      focus
        obtain ⟨M, t, al, nb⟩ : ∃ M : Nat → Addr → Prop, Two H H5 C Lo Lm M o d (1 + 5 * m + 5) ∧ (∀ j, j < 2 → ∀ c, M j c → H5 c ≠ none) ∧ ∀ j, j < 2 → ¬ M j b := ⟨_, t.cut, fun _ _ _ h => h.2, fun j hj h => nb j hj h.1⟩
        obtain ⟨r, ms, ls, gv, ts, ⟨N, oa, ob, e1, e2, e3, e4, e5, e6, e7⟩, v1, v2, v3⟩ := t.one i hi
        obtain ⟨dx, fs, x1, nl⟩ := oa.ins
        obtain ⟨kvs, h1, h2, h3, h4, h5, xs, h6, row⟩ := ob
        refine ⟨_, rfl, _, rfl, Lo, _, _, .ref (o i), rfl, rfl, SqL.of t.lo, at2 hi, o i, dx, fs, rfl, x1, nl _ (by decide), N, o i, ms, ls, gv, ts, rfl, oa, fun u H6 N6 nu ord6 f6 s6 => ?_⟩
        have hix : ixN [V.ref (o 0), V.ref (o 1)].length (1 - ((i : Nat) : Int)) = some (1 - i) := by
          rcases (by omega : i = 0 ∨ i = 1) with rfl | rfl <;> rfl
        have hix2 : ixN [V.ref (d 0), V.ref (d 1)].length (1 - ((i : Nat) : Int)) = some (1 - i) := hix
        refine ⟨_, rfl, _, rfl, _, _, rfl, rfl, Lo, _, _, 1 - i, rfl, rfl, s6 _ _ t.lo, hix, ?_⟩
        have ord6 := ord6.cut
        have k7 : ∀ c x, c ≠ Lo → H6 c = some x → (upd H6 Lo (.lst ([V.ref (o 0), V.ref (o 1)].set (1 - i) (.ref u)))) c = some x := fun c x hc z => by
          rw [upd_ne hc]
          exact z
        have e7Lo : (upd H6 Lo (.lst ([V.ref (o 0), V.ref (o 1)].set (1 - i) (.ref u)))) Lo = some (.lst ([V.ref (o 0), V.ref (o 1)].set (1 - i) (.ref u))) := upd_same
        have n7 : ∀ c, (upd H6 Lo (.lst ([V.ref (o 0), V.ref (o 1)].set (1 - i) (.ref u)))) c = none → H6 c = none := fun c z => by
          have hc : c ≠ Lo := fun e => by rw [e, upd_same] at z; cases z
          rw [upd_ne hc] at z
          exact z
        generalize upd H6 Lo (.lst ([V.ref (o 0), V.ref (o 1)].set (1 - i) (.ref u))) = H7 at *
        have dLo : d i ≠ Lo := fun e => t.no i hi (e ▸ e2)
        have rLo : r ≠ Lo := fun e => t.no i hi (e ▸ e3)
        have dLm : d i ≠ Lm := fun e => t.nm i hi (e ▸ e2)
        have rLm : r ≠ Lm := fun e => t.nm i hi (e ▸ e3)
        have w7m : H7 Lm = some (.lst [.ref (d 0), .ref (d 1)]) := k7 _ _ t.ne.symm (s6 _ _ t.lm)
        have w7d := k7 _ _ dLo (s6 _ _ h1)
        have w7r := k7 _ _ rLo (s6 _ _ h6)
        refine ⟨_, rfl, _, rfl, Lm, _, _, .ref (d i), rfl, rfl, SqL.of w7m, at2 hi, d i, _, rfl, .inl w7d, fun p hp => ?_⟩
        have pLm : p ≠ Lm := fun e => by rw [e, w7m] at hp; cases hp
        have q8 : ∀ c x, H7 c = some x → (upd H7 p (.dK kvs)) c = some x := fun c x z => kep z hp
        have e8p : (upd H7 p (.dK kvs)) p = some (.dK kvs) := upd_same
        have n8 : ∀ c, (upd H7 p (.dK kvs)) c = none → H7 c = none := fun c z => by
          have hc : c ≠ p := fun e => by rw [e, upd_same] at z; cases z
          rw [upd_ne hc] at z
          exact z
        generalize upd H7 p (.dK kvs) = H8 at *
        refine ⟨_, rfl, _, rfl, _, _, rfl, rfl, Lm, _, _, 1 - i, rfl, rfl, q8 _ _ w7m, hix2, ?_⟩
        have k9 : ∀ c x, c ≠ Lm → H8 c = some x → (upd H8 Lm (.lst ([V.ref (d 0), V.ref (d 1)].set (1 - i) (.ref p)))) c = some x := fun c x hc z => by
          rw [upd_ne hc]
          exact z
        have e9Lm : (upd H8 Lm (.lst ([V.ref (d 0), V.ref (d 1)].set (1 - i) (.ref p)))) Lm = some (.lst ([V.ref (d 0), V.ref (d 1)].set (1 - i) (.ref p))) := upd_same
        have n9 : ∀ c, (upd H8 Lm (.lst ([V.ref (d 0), V.ref (d 1)].set (1 - i) (.ref p)))) c = none → H8 c = none := fun c z => by
          have hc : c ≠ Lm := fun e => by rw [e, upd_same] at z; cases z
          rw [upd_ne hc] at z
          exact z
        generalize upd H8 Lm (.lst ([V.ref (d 0), V.ref (d 1)].set (1 - i) (.ref p))) = H9 at *
        have hsi : atI ([V.ref (d 0), V.ref (d 1)].set (1 - i) (.ref p)) ((i : Nat) : Int) = some (.ref (d i)) := by
          rcases (by omega : i = 0 ∨ i = 1) with rfl | rfl <;> rfl
        have hsp : atI ([V.ref (d 0), V.ref (d 1)].set (1 - i) (.ref p)) (1 - ((i : Nat) : Int)) = some (.ref p) := by
          rcases (by omega : i = 0 ∨ i = 1) with rfl | rfl <;> rfl
        have w9d := k9 _ _ dLm (q8 _ _ w7d)
        have w9r := k9 _ _ rLm (q8 _ _ w7r)
        refine ⟨_, rfl, _, rfl, Lm, _, _, .ref (d i), rfl, rfl, SqL.of e9Lm, hsi, d i, _, rfl, dgs w9d h3, ?_⟩
        refine ⟨r, _, rfl, .inl (SqL.of w9r), fun l hl => ?_⟩
        have q10 : ∀ c x, H9 c = some x → (upd H9 l (.lst xs)) c = some x := fun c x z => kep z hl
        have e10l : (upd H9 l (.lst xs)) l = some (.lst xs) := upd_same
        generalize upd H9 l (.lst xs) = H10 at *
        have e9p := k9 _ _ pLm e8p
        have lp : l ≠ p := (ne_of_none e9p hl).symm
        refine ⟨_, rfl, _, rfl, _, _, rfl, rfl, Lm, _, _, .ref p, rfl, rfl, SqL.of (q10 _ _ e9Lm), hsp, p, _, rfl, DPut.k (k := kr) (q10 _ _ e9p) (small1000 (by omega)), ?_⟩
        have np6 := n7 _ hp
        have nl8 := n9 _ hl
        have nl6 := n7 _ (n8 _ nl8)
        have np5 : H5 p = none := none_of' s6 np6
        have nl5 : H5 l = none := none_of' s6 nl6
        have lLm : l ≠ Lm := (ne_of_none e9Lm hl).symm
        have pLo : p ≠ Lo := fun e => by rw [e, e7Lo] at hp; cases hp
        have hb5 : H5 b ≠ none := by
          obtain ⟨u, hu⟩ := hB5.some
          rw [hu]
          simp
        have kk : ∀ c x, c ≠ Lo → c ≠ Lm → H6 c = some x → (upd H10 p (.dK (putK kvs kr (.ref l)))) c = some x := fun c x c1 c2 z => by
          rw [upd_ne (ne_of_none z np6)]
          exact q10 _ _ (k9 _ _ c2 (q8 _ _ (k7 _ _ c1 z)))
        have e11p : (upd H10 p (.dK (putK kvs kr (.ref l)))) p = some (.dK (putK kvs kr (.ref l))) := upd_same
        have e11l : (upd H10 p (.dK (putK kvs kr (.ref l)))) l = some (.lst xs) := by rw [upd_ne lp]; exact e10l
        have e11o : (upd H10 p (.dK (putK kvs kr (.ref l)))) Lo = some (.lst ([V.ref (o 0), V.ref (o 1)].set (1 - i) (.ref u))) := by
          rw [upd_ne pLo.symm]
          exact q10 _ _ (k9 _ _ t.ne (q8 _ _ e7Lo))
        have e11m : (upd H10 p (.dK (putK kvs kr (.ref l)))) Lm = some (.lst ([V.ref (d 0), V.ref (d 1)].set (1 - i) (.ref p))) := by
          rw [upd_ne pLm.symm]
          exact q10 _ _ e9Lm
        generalize upd H10 p (.dK (putK kvs kr (.ref l))) = H9z at *
        have kt : KT H5 H9z := fun c ys z => kk c _ (fun e => by rw [e, t.lo] at z; cases z) (fun e => by rw [e, t.lm] at z; cases z) (s6 _ _ z)
        have md : Mod H9z p l ms ls gv ts := ⟨_, e11p, (putK_old h3).trans h2, by rw [valV_put, if_pos rfl], by rw [valV_put, if_neg (by decide)]; exact h4, by rw [valV_put, if_neg (by decide)]; exact h5, xs, e11l, row.kp kt⟩
        have nw : One (fun c => N6 c ∨ c = p ∨ c = l) H9z C u p (1 + 5 * m + 5) := ⟨l, ms, ls, gv, ts, .mk' (ord6.kp fun c x hc z => kk c x (fun e => by
          have := f6 c hc.1
          rw [e, t.lo] at this
          cases this) (fun e => by
          have := f6 c hc.1
          rw [e, t.lm] at this
          cases this) z) md (fun c h => .inl h.1) (.inr (.inl rfl)) (.inr (.inr rfl)) (fun z => z.2 np6) (fun z => z.2 nl6), v1, v2, v3⟩
        obtain ⟨M9, o9, d9, t9, nb9⟩ := t.copy al hi nw (fun c hc => by
          rcases hc with h | rfl | rfl
          · exact f6 c h
          · exact np5
          · exact nl5) e11o e11m (fun c x c1 c2 z => kk c x c1 c2 (s6 _ _ z)) hb5 nb
        clear t
        have t := t9
        clear hcp
      rotate_left
      focus
        obtain ⟨o9, rfl⟩ : ∃ X, X = o := ⟨_, rfl⟩
        obtain ⟨d9, rfl⟩ : ∃ X, X = d := ⟨_, rfl⟩
        obtain ⟨H9z, rfl⟩ : ∃ X, X = H5 := ⟨_, rfl⟩
        clear hcp
      all_goals
        obtain ⟨r, ms, ls, gv, ts, ⟨N, oa, ob, _⟩, v1, v2, v3⟩ := t.one 0 (by decide)
        refine ⟨_, rfl, Lo, _, _, .ref (o9 0), rfl, rfl, SqL.of t.lo, (show atI _ ((0 : Nat) : Int) = _ from at2 (by decide)), ?_⟩
        refine ⟨_, rfl, Lm, _, _, .ref (d9 0), rfl, rfl, SqL.of t.lm, (show atI _ ((0 : Nat) : Int) = _ from at2 (by decide)), ?_⟩
        refine ⟨N, _, _, r, ms, ls, gv, ts, rfl, oa, ob, by omega, by omega, fun HA sA => ⟨_, rfl, iteF ?_⟩⟩
        have tA := t.same sA
        obtain ⟨r, ms, ls, gv, ts, ⟨N, oa, ob, _⟩, v1, v2, v3⟩ := tA.one 1 (by decide)
        refine ⟨_, rfl, Lo, _, _, .ref (o9 1), rfl, rfl, SqL.of tA.lo, (show atI _ ((1 : Nat) : Int) = _ from at2 (by decide)), ?_⟩
        refine ⟨_, rfl, Lm, _, _, .ref (d9 1), rfl, rfl, SqL.of tA.lm, (show atI _ ((1 : Nat) : Int) = _ from at2 (by decide)), ?_⟩
        refine ⟨N, _, _, r, ms, ls, gv, ts, rfl, oa, ob, by omega, by omega, fun HB sB => ⟨_, rfl, iteF ?_⟩⟩
        exact ⟨_, o9, d9, _, _, _, _, _, rfl, by omega, tA.same sB⟩
    focus
      have hcap : ∀ k : Nat, k ≤ 30 → 1 + 5 * k ≤ 151 := fun k h => by omega
      obtain ⟨M, o, d, y3, y4, y5, y6, y7, rfl, hk, t⟩ := hP
      refine ⟨_, rfl, a, ns, 0, rfl, t.sm.seq hS, hl, by decide, fun z => ⟨_, _, rfl, rfl, (by show (0 : Int) < 16; decide), rfl, _, rfl, ?_⟩⟩
      refine ite2 (fun _ => ?_) (fun _ => q H1)
      refine ⟨_, rfl, a, ns, 0, rfl, t.sm.seq hS, hl, by decide, fun z => ⟨_, _, rfl, rfl, ⟨by omega, by omega⟩, _, _, rfl, rfl, (by show (0 : Int) < 3; decide), .inl ⟨_, rfl, ?_⟩⟩⟩
      obtain ⟨r, ms, ls, gv, ts, x, v1, v2, v3⟩ := t.one 0 (by decide)
      refine ⟨_, rfl, Lo, _, _, .ref (o 0), rfl, rfl, SqL.of t.lo, (show atI _ ((0 : Nat) : Int) = _ from at2 (by decide)), ?_⟩
      refine ⟨_, rfl, Lm, _, _, .ref (d 0), rfl, rfl, SqL.of t.lm, (show atI _ ((0 : Nat) : Int) = _ from at2 (by decide)), ?_⟩
      refine ⟨_, rfl, _, o 0, d 0, r, ms, ls, gv, ts, z / 16 % 3, rfl, Int.emod_nonneg _ (by decide), Int.emod_lt_of_pos _ (by decide), x, ?_, ?_, fun H2 M2 go => ⟨_, rfl, iteT ?_⟩⟩
      · have := hcap _ hk
        omega
      · have := hcap _ hk
        omega
      have z1 := go.fr _ _ (t.no 0 (by decide)) t.lo
      have z2 := go.fr _ _ (t.nm 0 (by decide)) t.lm
      have one1 := (t.one 1 (by decide)).kp (H' := H2) (fun c u hc z => go.fr c u (t.dis 1 0 c (by decide) (by decide) (by decide) hc) z) go.kt
      obtain ⟨r, ms, ls, gv, ts, ⟨N, oa, ob, _⟩, v1, v2, v3⟩ := one1
      have hc2 := hcap _ hk
      refine ⟨_, rfl, Lo, _, _, .ref (o 1), rfl, rfl, SqL.of z1, (show atI _ ((1 : Nat) : Int) = _ from at2 (by decide)), ?_⟩
      refine ⟨_, rfl, Lm, _, _, .ref (d 1), rfl, rfl, SqL.of z2, (show atI _ ((1 : Nat) : Int) = _ from at2 (by decide)), ?_⟩
      exact ⟨N, _, _, r, ms, ls, gv, ts, rfl, oa, ob, by omega, by omega, fun H3 _ => q H3⟩
end
end K13
namespace K13
open PySem PySem.Spec PyProof.Rows L2 Gd Gs Ge
open C8 (clsBody Met)
theorem exm_self {K : PySem.W.Frag} {S : Addr} (isC : PySem.W.isClsIn K S = true) (meta_ : PySem.W.typeIn K (.ref S) = some (.type "type"))
    (exc : PySem.W.subIn K (.ref S) (.type "BaseException") = some true) (m : PySem.W.subIn K (.ref S) (.ref S) = some true) : PySem.W.exmOne K (.ref S) (.ref S) = some true := by
  unfold PySem.W.isClsIn at isC
  simp [PySem.W.exmOne, PySem.W.kitCls, exc, meta_, isC, m]
theorem all_mk {l : PySem.W.OpenLaw} {w : World} {K : PySem.W.Frag} {h : Heap} {mg : Str → Option Value} {fa : Addr} (X : K.In h) (G : h.Ns mainGlobals mg) (hfa : mg "law" = some (.ref fa))
    {f0 : Addr}
    {od0 an0 : Option Addr}
    {sl0 : Array (Option Value)}
    {oc0 kV0 dc0 pm0 cd0 ct0 : Value}
    {f1 : Addr}
    {od1 an1 : Option Addr}
    {sl1 : Array (Option Value)}
    {oc1 kV1 dc1 pm1 cd1 ct1 : Value}
    {f2 : Addr}
    {od2 an2 : Option Addr}
    {sl2 : Array (Option Value)}
    {oc2 kV2 dc2 pm2 cd2 ct2 : Value}
    {f3 : Addr}
    {od3 an3 : Option Addr}
    {sl3 : Array (Option Value)}
    {oc3 kV3 dc3 pm3 cd3 ct3 : Value}
    {f4 : Addr}
    {od4 an4 : Option Addr}
    {sl4 : Array (Option Value)}
    {oc4 kV4 dc4 pm4 cd4 ct4 : Value}
    {f5 : Addr}
    {od5 an5 : Option Addr}
    {sl5 : Array (Option Value)}
    {oc5 kV5 dc5 pm5 cd5 ct5 : Value}
    {f6 : Addr}
    {od6 an6 : Option Addr}
    {sl6 : Array (Option Value)}
    {oc6 kV6 dc6 pm6 cd6 ct6 : Value}
    {f7 : Addr}
    {od7 an7 : Option Addr}
    {sl7 : Array (Option Value)}
    {oc7 kV7 dc7 pm7 cd7 ct7 : Value}
    {f8 : Addr}
    {od8 an8 : Option Addr}
    {sl8 : Array (Option Value)}
    {oc8 kV8 dc8 pm8 cd8 ct8 : Value}
    {f9 : Addr}
    {od9 an9 : Option Addr}
    {sl9 : Array (Option Value)}
    {oc9 kV9 dc9 pm9 cd9 ct9 : Value}
    {f10 : Addr}
    {od10 an10 : Option Addr}
    {sl10 : Array (Option Value)}
    {oc10 kV10 dc10 pm10 cd10 ct10 : Value}
    {f11 : Addr}
    {od11 an11 : Option Addr}
    {sl11 : Array (Option Value)}
    {oc11 kV11 dc11 pm11 cd11 ct11 : Value}
    {t_MOST_MARKS : Tok}
    {t_LABELS : Tok}
    {CO : Addr}
    {f_CO_many : Addr}
    {od_CO_many an_CO_many : Option Addr}
    {sl_CO_many : Array (Option Value)}
    {oc_CO_many kV_CO_many dc_CO_many pm_CO_many cd_CO_many ct_CO_many : Value}
    {f_CO_need_mark : Addr}
    {od_CO_need_mark an_CO_need_mark : Option Addr}
    {sl_CO_need_mark : Array (Option Value)}
    {oc_CO_need_mark kV_CO_need_mark dc_CO_need_mark pm_CO_need_mark cd_CO_need_mark ct_CO_need_mark : Value}
    {f_CO_label : Addr}
    {od_CO_label an_CO_label : Option Addr}
    {sl_CO_label : Array (Option Value)}
    {oc_CO_label kV_CO_label dc_CO_label pm_CO_label cd_CO_label ct_CO_label : Value}
    {f_CO_label_at : Addr}
    {od_CO_label_at an_CO_label_at : Option Addr}
    {sl_CO_label_at : Array (Option Value)}
    {oc_CO_label_at kV_CO_label_at dc_CO_label_at pm_CO_label_at cd_CO_label_at ct_CO_label_at : Value}
    {f_CO_marks : Addr}
    {od_CO_marks an_CO_marks : Option Addr}
    {sl_CO_marks : Array (Option Value)}
    {oc_CO_marks kV_CO_marks dc_CO_marks pm_CO_marks cd_CO_marks ct_CO_marks : Value}
    {f_CO_anew : Addr}
    {od_CO_anew an_CO_anew : Option Addr}
    {sl_CO_anew : Array (Option Value)}
    {oc_CO_anew kV_CO_anew dc_CO_anew pm_CO_anew cd_CO_anew ct_CO_anew : Value}
    {f_CO_label_anew : Addr}
    {od_CO_label_anew an_CO_label_anew : Option Addr}
    {sl_CO_label_anew : Array (Option Value)}
    {oc_CO_label_anew kV_CO_label_anew dc_CO_label_anew pm_CO_label_anew cd_CO_label_anew ct_CO_label_anew : Value}
    {f_CO_behind : Addr}
    {od_CO_behind an_CO_behind : Option Addr}
    {sl_CO_behind : Array (Option Value)}
    {oc_CO_behind kV_CO_behind dc_CO_behind pm_CO_behind cd_CO_behind ct_CO_behind : Value}
    {f_CO_drop : Addr}
    {od_CO_drop an_CO_drop : Option Addr}
    {sl_CO_drop : Array (Option Value)}
    {oc_CO_drop kV_CO_drop dc_CO_drop pm_CO_drop cd_CO_drop ct_CO_drop : Value}
    {f_CO_copied : Addr}
    {od_CO_copied an_CO_copied : Option Addr}
    {sl_CO_copied : Array (Option Value)}
    {oc_CO_copied kV_CO_copied dc_CO_copied pm_CO_copied cd_CO_copied ct_CO_copied : Value}
    {f_CO_init : Addr}
    {od_CO_init an_CO_init : Option Addr}
    {sl_CO_init : Array (Option Value)}
    {oc_CO_init kV_CO_init dc_CO_init pm_CO_init cd_CO_init ct_CO_init : Value}
    {CE : Addr}
    {nmT qT fileT : Str} {CT fT NT cdaT ccT : Addr} {bsT subT : List Value} {snT : List Str} {abT : Bool} {colT : Option Bool} {ddT odT anT cddT cldT : Option Addr} {m0T m1T m2T m3T m5T : Option Value} {ocT dcT pmT ctT cclT clT : Value} {slT ccsT cslT : Array (Option Value)} {vsT : Array Value} {tfT : Tok} {kdT : Nat} {r1T r2T p1T p2T p3T p4T p5T p6T q1T q2T q3T q4T : Pos}
    (a0 : PySem.W.nsIn K mainGlobals "is_whole" = some (some (.ref f0)))
    (l0 : K.lookup f0 = some ⟨oc0, od0, .func (PySem.W.fnOf "is_whole" "is_whole" (defArgs s_is_whole) (defBody s_is_whole) (defScope s_is_whole) .none kV0 dc0 pm0 an0 cd0 ct0), sl0⟩)
    (c0 : PySem.W.codeIn K cd0 "is_whole" = true)
    (k0 : PySem.W.keepIn K (.ref f0) = true)
    (a1 : PySem.W.nsIn K mainGlobals "_law_cell_at" = some (some (.ref f1)))
    (l1 : K.lookup f1 = some ⟨oc1, od1, .func (PySem.W.fnOf "_law_cell_at" "_law_cell_at" (defArgs s__law_cell_at) (defBody s__law_cell_at) (defScope s__law_cell_at) .none kV1 dc1 pm1 an1 cd1 ct1), sl1⟩)
    (c1 : PySem.W.codeIn K cd1 "_law_cell_at" = true)
    (k1 : PySem.W.keepIn K (.ref f1) = true)
    (a2 : PySem.W.nsIn K mainGlobals "_law_box" = some (some (.ref f2)))
    (l2 : K.lookup f2 = some ⟨oc2, od2, .func (PySem.W.fnOf "_law_box" "_law_box" (defArgs s__law_box) (defBody s__law_box) (defScope s__law_box) .none kV2 dc2 pm2 an2 cd2 ct2), sl2⟩)
    (c2 : PySem.W.codeIn K cd2 "_law_box" = true)
    (k2 : PySem.W.keepIn K (.ref f2) = true)
    (a3 : PySem.W.nsIn K mainGlobals "_law_take" = some (some (.ref f3)))
    (l3 : K.lookup f3 = some ⟨oc3, od3, .func (PySem.W.fnOf "_law_take" "_law_take" (defArgs s__law_take) (defBody s__law_take) (defScope s__law_take) .none kV3 dc3 pm3 an3 cd3 ct3), sl3⟩)
    (c3 : PySem.W.codeIn K cd3 "_law_take" = true)
    (k3 : PySem.W.keepIn K (.ref f3) = true)
    (a4 : PySem.W.nsIn K mainGlobals "_law_end" = some (some (.ref f4)))
    (l4 : K.lookup f4 = some ⟨oc4, od4, .func (PySem.W.fnOf "_law_end" "_law_end" (defArgs s__law_end) (defBody s__law_end) (defScope s__law_end) .none kV4 dc4 pm4 an4 cd4 ct4), sl4⟩)
    (c4 : PySem.W.codeIn K cd4 "_law_end" = true)
    (k4 : PySem.W.keepIn K (.ref f4) = true)
    (a5 : PySem.W.nsIn K mainGlobals "_law_put" = some (some (.ref f5)))
    (l5 : K.lookup f5 = some ⟨oc5, od5, .func (PySem.W.fnOf "_law_put" "_law_put" (defArgs s__law_put) (defBody s__law_put) (defScope s__law_put) .none kV5 dc5 pm5 an5 cd5 ct5), sl5⟩)
    (c5 : PySem.W.codeIn K cd5 "_law_put" = true)
    (k5 : PySem.W.keepIn K (.ref f5) = true)
    (a6 : PySem.W.nsIn K mainGlobals "_law_right" = some (some (.ref f6)))
    (l6 : K.lookup f6 = some ⟨oc6, od6, .func (PySem.W.fnOf "_law_right" "_law_right" (defArgs s__law_right) (defBody s__law_right) (defScope s__law_right) .none kV6 dc6 pm6 an6 cd6 ct6), sl6⟩)
    (c6 : PySem.W.codeIn K cd6 "_law_right" = true)
    (k6 : PySem.W.keepIn K (.ref f6) = true)
    (a7 : PySem.W.nsIn K mainGlobals "_law_newest" = some (some (.ref f7)))
    (l7 : K.lookup f7 = some ⟨oc7, od7, .func (PySem.W.fnOf "_law_newest" "_law_newest" (defArgs s__law_newest) (defBody s__law_newest) (defScope s__law_newest) .none kV7 dc7 pm7 an7 cd7 ct7), sl7⟩)
    (c7 : PySem.W.codeIn K cd7 "_law_newest" = true)
    (k7 : PySem.W.keepIn K (.ref f7) = true)
    (a8 : PySem.W.nsIn K mainGlobals "_law_step" = some (some (.ref f8)))
    (l8 : K.lookup f8 = some ⟨oc8, od8, .func (PySem.W.fnOf "_law_step" "_law_step" (defArgs s__law_step) (defBody s__law_step) (defScope s__law_step) .none kV8 dc8 pm8 an8 cd8 ct8), sl8⟩)
    (c8 : PySem.W.codeIn K cd8 "_law_step" = true)
    (k8 : PySem.W.keepIn K (.ref f8) = true)
    (a9 : PySem.W.nsIn K mainGlobals "_law_refused" = some (some (.ref f9)))
    (l9 : K.lookup f9 = some ⟨oc9, od9, .func (PySem.W.fnOf "_law_refused" "_law_refused" (defArgs s__law_refused) (defBody s__law_refused) (defScope s__law_refused) .none kV9 dc9 pm9 an9 cd9 ct9), sl9⟩)
    (c9 : PySem.W.codeIn K cd9 "_law_refused" = true)
    (k9 : PySem.W.keepIn K (.ref f9) = true)
    (a10 : PySem.W.nsIn K mainGlobals "_law_full" = some (some (.ref f10)))
    (l10 : K.lookup f10 = some ⟨oc10, od10, .func (PySem.W.fnOf "_law_full" "_law_full" (defArgs s__law_full) (defBody s__law_full) (defScope s__law_full) .none kV10 dc10 pm10 an10 cd10 ct10), sl10⟩)
    (c10 : PySem.W.codeIn K cd10 "_law_full" = true)
    (k10 : PySem.W.keepIn K (.ref f10) = true)
    (a11 : PySem.W.nsIn K mainGlobals "law" = some (some (.ref f11)))
    (l11 : K.lookup f11 = some ⟨oc11, od11, .func (PySem.W.fnOf "law" "law" (defArgs s_law) (defBody s_law) (defScope s_law) .none kV11 dc11 pm11 an11 cd11 ct11), sl11⟩)
    (c11 : PySem.W.codeIn K cd11 "law" = true)
    (k11 : PySem.W.keepIn K (.ref f11) = true)
    (z_len : PySem.W.nsIn K mainGlobals "len" = some none)
    (z_max : PySem.W.nsIn K mainGlobals "max" = some none)
    (z_min : PySem.W.nsIn K mainGlobals "min" = some none)
    (z_range : PySem.W.nsIn K mainGlobals "range" = some none)
    (z_repr : PySem.W.nsIn K mainGlobals "repr" = some none)
    (z_isinstance : PySem.W.nsIn K mainGlobals "isinstance" = some none)
    (z_enumerate : PySem.W.nsIn K mainGlobals "enumerate" = some none)
    (z_int : PySem.W.nsIn K mainGlobals "int" = some none)
    (z_bool : PySem.W.nsIn K mainGlobals "bool" = some none)
    (z_list : PySem.W.nsIn K mainGlobals "list" = some none)
    (z_dict : PySem.W.nsIn K mainGlobals "dict" = some none)
    (i_MOST_MARKS : PySem.W.nsIn K mainGlobals "MOST_MARKS" = some (some (.int 200 t_MOST_MARKS)))
    (i_LABELS : PySem.W.nsIn K mainGlobals "LABELS" = some (some (.int 1024 t_LABELS)))
    (a_CO : PySem.W.nsIn K mainGlobals "Order" = some (some (.ref CO)))
    (pg_CO : PySem.W.plainGet K CO Str.empty = true)
    (hd_CO : PySem.W.hasDictIn K CO = true)
    (po_CO : PySem.W.plainOver K CO = true)
    (sa_CO : PySem.W.findIn K (.ref CO) "__setattr__" = some (some (.builtin "object.__setattr__")))
    (no_CO__marks : PySem.W.findIn K (.ref CO) "_marks" = some none)
    (no_CO__labels : PySem.W.findIn K (.ref CO) "_labels" = some none)
    (no_CO__given : PySem.W.findIn K (.ref CO) "_given" = some none)
    (no_CO__times : PySem.W.findIn K (.ref CO) "_times" = some none)
    (mk_CO : PySem.W.makesIn K CO = true)
    (kp_CO : PySem.W.keepIn K (.ref CO) = true)
    (m_CO_many : PySem.W.findIn K (.ref CO) "many" = some (some (.ref f_CO_many)))
    (l_CO_many : K.lookup f_CO_many = some ⟨oc_CO_many, od_CO_many, .func (PySem.W.fnOf "many" "Order.many" (defArgs s_Order_many) (defBody s_Order_many) (defScope s_Order_many) .none kV_CO_many dc_CO_many pm_CO_many an_CO_many cd_CO_many ct_CO_many), sl_CO_many⟩)
    (c_CO_many : PySem.W.codeIn K cd_CO_many "Order.many" = true)
    (k_CO_many : PySem.W.keepIn K (.ref f_CO_many) = true)
    (y_CO_many : PySem.W.isFn K (.ref f_CO_many) = true)
    (m_CO_need_mark : PySem.W.findIn K (.ref CO) "_need_mark" = some (some (.ref f_CO_need_mark)))
    (l_CO_need_mark : K.lookup f_CO_need_mark = some ⟨oc_CO_need_mark, od_CO_need_mark, .func (PySem.W.fnOf "_need_mark" "Order._need_mark" (defArgs s_Order__need_mark) (defBody s_Order__need_mark) (defScope s_Order__need_mark) .none kV_CO_need_mark dc_CO_need_mark pm_CO_need_mark an_CO_need_mark cd_CO_need_mark ct_CO_need_mark), sl_CO_need_mark⟩)
    (c_CO_need_mark : PySem.W.codeIn K cd_CO_need_mark "Order._need_mark" = true)
    (k_CO_need_mark : PySem.W.keepIn K (.ref f_CO_need_mark) = true)
    (y_CO_need_mark : PySem.W.isFn K (.ref f_CO_need_mark) = true)
    (m_CO_label : PySem.W.findIn K (.ref CO) "label" = some (some (.ref f_CO_label)))
    (l_CO_label : K.lookup f_CO_label = some ⟨oc_CO_label, od_CO_label, .func (PySem.W.fnOf "label" "Order.label" (defArgs s_Order_label) (defBody s_Order_label) (defScope s_Order_label) .none kV_CO_label dc_CO_label pm_CO_label an_CO_label cd_CO_label ct_CO_label), sl_CO_label⟩)
    (c_CO_label : PySem.W.codeIn K cd_CO_label "Order.label" = true)
    (k_CO_label : PySem.W.keepIn K (.ref f_CO_label) = true)
    (y_CO_label : PySem.W.isFn K (.ref f_CO_label) = true)
    (m_CO_label_at : PySem.W.findIn K (.ref CO) "_label_at" = some (some (.ref f_CO_label_at)))
    (l_CO_label_at : K.lookup f_CO_label_at = some ⟨oc_CO_label_at, od_CO_label_at, .func (PySem.W.fnOf "_label_at" "Order._label_at" (defArgs s_Order__label_at) (defBody s_Order__label_at) (defScope s_Order__label_at) .none kV_CO_label_at dc_CO_label_at pm_CO_label_at an_CO_label_at cd_CO_label_at ct_CO_label_at), sl_CO_label_at⟩)
    (c_CO_label_at : PySem.W.codeIn K cd_CO_label_at "Order._label_at" = true)
    (k_CO_label_at : PySem.W.keepIn K (.ref f_CO_label_at) = true)
    (y_CO_label_at : PySem.W.isFn K (.ref f_CO_label_at) = true)
    (m_CO_marks : PySem.W.findIn K (.ref CO) "marks" = some (some (.ref f_CO_marks)))
    (l_CO_marks : K.lookup f_CO_marks = some ⟨oc_CO_marks, od_CO_marks, .func (PySem.W.fnOf "marks" "Order.marks" (defArgs s_Order_marks) (defBody s_Order_marks) (defScope s_Order_marks) .none kV_CO_marks dc_CO_marks pm_CO_marks an_CO_marks cd_CO_marks ct_CO_marks), sl_CO_marks⟩)
    (c_CO_marks : PySem.W.codeIn K cd_CO_marks "Order.marks" = true)
    (k_CO_marks : PySem.W.keepIn K (.ref f_CO_marks) = true)
    (y_CO_marks : PySem.W.isFn K (.ref f_CO_marks) = true)
    (m_CO_anew : PySem.W.findIn K (.ref CO) "anew" = some (some (.ref f_CO_anew)))
    (l_CO_anew : K.lookup f_CO_anew = some ⟨oc_CO_anew, od_CO_anew, .func (PySem.W.fnOf "anew" "Order.anew" (defArgs s_Order_anew) (defBody s_Order_anew) (defScope s_Order_anew) .none kV_CO_anew dc_CO_anew pm_CO_anew an_CO_anew cd_CO_anew ct_CO_anew), sl_CO_anew⟩)
    (c_CO_anew : PySem.W.codeIn K cd_CO_anew "Order.anew" = true)
    (k_CO_anew : PySem.W.keepIn K (.ref f_CO_anew) = true)
    (y_CO_anew : PySem.W.isFn K (.ref f_CO_anew) = true)
    (m_CO_label_anew : PySem.W.findIn K (.ref CO) "_label_anew" = some (some (.ref f_CO_label_anew)))
    (l_CO_label_anew : K.lookup f_CO_label_anew = some ⟨oc_CO_label_anew, od_CO_label_anew, .func (PySem.W.fnOf "_label_anew" "Order._label_anew" (defArgs s_Order__label_anew) (defBody s_Order__label_anew) (defScope s_Order__label_anew) .none kV_CO_label_anew dc_CO_label_anew pm_CO_label_anew an_CO_label_anew cd_CO_label_anew ct_CO_label_anew), sl_CO_label_anew⟩)
    (c_CO_label_anew : PySem.W.codeIn K cd_CO_label_anew "Order._label_anew" = true)
    (k_CO_label_anew : PySem.W.keepIn K (.ref f_CO_label_anew) = true)
    (y_CO_label_anew : PySem.W.isFn K (.ref f_CO_label_anew) = true)
    (m_CO_behind : PySem.W.findIn K (.ref CO) "behind" = some (some (.ref f_CO_behind)))
    (l_CO_behind : K.lookup f_CO_behind = some ⟨oc_CO_behind, od_CO_behind, .func (PySem.W.fnOf "behind" "Order.behind" (defArgs s_Order_behind) (defBody s_Order_behind) (defScope s_Order_behind) .none kV_CO_behind dc_CO_behind pm_CO_behind an_CO_behind cd_CO_behind ct_CO_behind), sl_CO_behind⟩)
    (c_CO_behind : PySem.W.codeIn K cd_CO_behind "Order.behind" = true)
    (k_CO_behind : PySem.W.keepIn K (.ref f_CO_behind) = true)
    (y_CO_behind : PySem.W.isFn K (.ref f_CO_behind) = true)
    (m_CO_drop : PySem.W.findIn K (.ref CO) "drop" = some (some (.ref f_CO_drop)))
    (l_CO_drop : K.lookup f_CO_drop = some ⟨oc_CO_drop, od_CO_drop, .func (PySem.W.fnOf "drop" "Order.drop" (defArgs s_Order_drop) (defBody s_Order_drop) (defScope s_Order_drop) .none kV_CO_drop dc_CO_drop pm_CO_drop an_CO_drop cd_CO_drop ct_CO_drop), sl_CO_drop⟩)
    (c_CO_drop : PySem.W.codeIn K cd_CO_drop "Order.drop" = true)
    (k_CO_drop : PySem.W.keepIn K (.ref f_CO_drop) = true)
    (y_CO_drop : PySem.W.isFn K (.ref f_CO_drop) = true)
    (m_CO_copied : PySem.W.findIn K (.ref CO) "copied" = some (some (.ref f_CO_copied)))
    (l_CO_copied : K.lookup f_CO_copied = some ⟨oc_CO_copied, od_CO_copied, .func (PySem.W.fnOf "copied" "Order.copied" (defArgs s_Order_copied) (defBody s_Order_copied) (defScope s_Order_copied) .none kV_CO_copied dc_CO_copied pm_CO_copied an_CO_copied cd_CO_copied ct_CO_copied), sl_CO_copied⟩)
    (c_CO_copied : PySem.W.codeIn K cd_CO_copied "Order.copied" = true)
    (k_CO_copied : PySem.W.keepIn K (.ref f_CO_copied) = true)
    (y_CO_copied : PySem.W.isFn K (.ref f_CO_copied) = true)
    (m_CO_init : PySem.W.findIn K (.ref CO) "__init__" = some (some (.ref f_CO_init)))
    (l_CO_init : K.lookup f_CO_init = some ⟨oc_CO_init, od_CO_init, .func (PySem.W.fnOf "__init__" "Order.__init__" (defArgs s_Order___init__) (defBody s_Order___init__) (defScope s_Order___init__) .none kV_CO_init dc_CO_init pm_CO_init an_CO_init cd_CO_init ct_CO_init), sl_CO_init⟩)
    (c_CO_init : PySem.W.codeIn K cd_CO_init "Order.__init__" = true)
    (k_CO_init : PySem.W.keepIn K (.ref f_CO_init) = true)
    (y_CO_init : PySem.W.isFn K (.ref f_CO_init) = true)
    (op : PySem.W.nsIn K cStatics "thirdparty.any" = some none)
    (zs : PySem.W.nsIn K mainGlobals "super" = some none)
    (htop : (l.prog.main.scope.names.lookup ("super" : Str)).isSome = false)
    (aE : PySem.W.nsIn K mainGlobals "MakesError" = some (some (.ref CE)))
    (iE : PySem.W.isClsIn K CE = true)
    (yE : PySem.W.typeIn K (.ref CE) = some (.type "type"))
    (eE : PySem.W.subIn K (.ref CE) (.type "BaseException") = some true)
    (aT : PySem.W.nsIn K mainGlobals "TooMany" = some (some (.ref CT)))
    (xT : K.lookup CT = some (excClassObj nmT qT CT NT bsT [.ref CE, .type "ValueError", .type "Exception", .type "BaseException", .type "object"] true snT subT abT colT ddT m0T m1T m2T m3T m5T "ValueError.__new__"))
    (saT : PySem.W.findIn K (.ref CT) "__setattr__" = some (some (.builtin "object.__setattr__")))
    (gaT : PySem.W.findIn K (.ref CT) "__getattribute__" = some (some (.builtin "BaseException.__getattribute__")))
    (ggT : PySem.W.findIn K (.ref CT) "__getattr__" = some none)
    (nnT : PySem.W.findIn K (.ref CT) "count" = some none)
    (iiT : PySem.W.findIn K (.ref CT) "__init__" = some (some (.ref fT)))
    (ttT : PySem.W.typeIn K (.ref fT) = some (.type "function"))
    (kkT : PySem.W.keepIn K (.ref CT) = true)
    (eeT : PySem.W.subIn K (.ref CT) (.type "BaseException") = some true)
    (veT : PySem.W.subIn K (.ref CT) (.type "ValueError") = some true)
    (tyT : PySem.W.typeIn K (.ref CT) = some (.type "type"))
    (hdT : PySem.W.hasDictIn K CT = true)
    (mmT : PySem.W.mroIn K CT (.ref CT) = some true)
    (suT : PySem.W.ks_superIn K CT CT "__init__" = some (some (.builtin "ValueError.__init__")))
    (llT : K.lookup fT = some ⟨ocT, odT, .func (PySem.W.ksFn "__init__" "TooMany.__init__" (Gc.iA r1T r2T) (Gc.iB "there would be too many" kdT p1T p2T p3T p4T p5T p6T q1T q2T q3T q4T) Gc.iS .none .none dcT pmT anT (.ref cdaT) ctT ccT), slT⟩)
    (ciT : PySem.W.codeIn K (.ref cdaT) "TooMany.__init__" = true)
    (dlT : K.lookup cdaT = some ⟨cclT, cddT, .fields vsT, ccsT⟩)
    (fvT : vsT[2]? = some (.str fileT tfT))
    (flT : ((l.prog.main.file : Str) == fileT) = true)
    (zcT : K.lookup ccT = some ⟨clT, cldT, .cell (some (.ref CT)), cslT⟩)
    (plT : (p3T.endLine == p5T.line) = true)
    (h1T : PySem.W.findIn K (.ref CT) "__class__" = some (some (.builtin "object.__class__")))
    (h2T : PySem.W.specialIn K (.builtin "object.__class__") "__get__" = some (some (.builtin "getset_descriptor.__get__")))
    (h3T : PySem.W.takesIn K (.builtin "object.__class__") = some true)
    (h4T : PySem.W.mroIn K CT (.type "object") = some true)
    (smT : PySem.W.subIn K (.ref CT) (.ref CE) = some true)
    (ssT : PySem.W.subIn K (.ref CT) (.ref CT) = some true)
    (iT : PySem.W.isClsIn K CT = true)
    : ∃ fd : FuncData, (∀ (s : Shared) (v : Value), BindsTo s fd ⟨[v], []⟩ [("_law_script", v)]) ∧ ∀ base : Heap, K.In base → base.Ns mainGlobals mg → FnG l.prog w K mg base CX0 7 fa fd ["_law_script"] (spLaw K) := by
  have e := hfa.symm.trans (PySem.W.mg_of X G a11)
  cases e
  have d_is_whole : DefAt K mg "is_whole" s_is_whole ["thing", "low", "high"] := defAt (PySem.W.mg_of X G a0) l0 c0 k0 (fun _ _ _ _ _ _ us hl => match us, hl with | [_, _, _], _ => rfl)
  have d__law_cell_at : DefAt K mg "_law_cell_at" s__law_cell_at ["_law_script", "_law_k"] := defAt (PySem.W.mg_of X G a1) l1 c1 k1 (fun _ _ _ _ _ _ us hl => match us, hl with | [_, _], _ => rfl)
  have d__law_box : DefAt K mg "_law_box" s__law_box ["_law_cell"] := defAt (PySem.W.mg_of X G a2) l2 c2 k2 (fun _ _ _ _ _ _ us hl => match us, hl with | [_], _ => rfl)
  have d__law_take : DefAt K mg "_law_take" s__law_take ["_law_box_here", "_law_many"] := defAt (PySem.W.mg_of X G a3) l3 c3 k3 (fun _ _ _ _ _ _ us hl => match us, hl with | [_, _], _ => rfl)
  have d__law_end : DefAt K mg "_law_end" s__law_end ["_law_row", "_law_at"] := defAt (PySem.W.mg_of X G a4) l4 c4 k4 (fun _ _ _ _ _ _ us hl => match us, hl with | [_, _], _ => rfl)
  have d__law_put : DefAt K mg "_law_put" s__law_put ["_law_model", "_law_at"] := defAt (PySem.W.mg_of X G a5) l5 c5 k5 (fun _ _ _ _ _ _ us hl => match us, hl with | [_, _], _ => rfl)
  have d__law_right : DefAt K mg "_law_right" s__law_right ["_law_order", "_law_model"] := defAt (PySem.W.mg_of X G a6) l6 c6 k6 (fun _ _ _ _ _ _ us hl => match us, hl with | [_, _], _ => rfl)
  have d__law_newest : DefAt K mg "_law_newest" s__law_newest ["_law_row"] := defAt (PySem.W.mg_of X G a7) l7 c7 k7 (fun _ _ _ _ _ _ us hl => match us, hl with | [_], _ => rfl)
  have d__law_step : DefAt K mg "_law_step" s__law_step ["_law_box_here", "_law_order", "_law_model"] := defAt (PySem.W.mg_of X G a8) l8 c8 k8 (fun _ _ _ _ _ _ us hl => match us, hl with | [_, _, _], _ => rfl)
  have d__law_refused : DefAt K mg "_law_refused" s__law_refused ["_law_order", "_law_model"] := defAt (PySem.W.mg_of X G a9) l9 c9 k9 (fun _ _ _ _ _ _ us hl => match us, hl with | [_, _], _ => rfl)
  have d__law_full : DefAt K mg "_law_full" s__law_full ["_law_order", "_law_model", "_law_way"] := defAt (PySem.W.mg_of X G a10) l10 c10 k10 (fun _ _ _ _ _ _ us hl => match us, hl with | [_, _, _], _ => rfl)
  have F_law := fun_mk (st := s_law) l11 c11 k11
  have cl_CO : Cls K CO := ⟨pg_CO, hd_CO, po_CO, sa_CO⟩
  have F_CO_many := fun_mk (st := s_Order_many) l_CO_many c_CO_many k_CO_many
  have B_CO_many : Binds K _ ["self"] [] := F_CO_many.binds (ps := ["self"]) (fun _ _ _ _ _ _ us hl => match us, hl with | [_], _ => rfl)
  have M_CO_many : MAt K CO "many" "Order.many" s_Order_many ["self"] := ⟨_, _, F_CO_many, ⟨m_CO_many, y_CO_many, k_CO_many⟩, B_CO_many⟩
  have F_CO_need_mark := fun_mk (st := s_Order__need_mark) l_CO_need_mark c_CO_need_mark k_CO_need_mark
  have B_CO_need_mark : Binds K _ ["self", "mark"] [] := F_CO_need_mark.binds (ps := ["self", "mark"]) (fun _ _ _ _ _ _ us hl => match us, hl with | [_, _], _ => rfl)
  have M_CO_need_mark : MAt K CO "_need_mark" "Order._need_mark" s_Order__need_mark ["self", "mark"] := ⟨_, _, F_CO_need_mark, ⟨m_CO_need_mark, y_CO_need_mark, k_CO_need_mark⟩, B_CO_need_mark⟩
  have F_CO_label := fun_mk (st := s_Order_label) l_CO_label c_CO_label k_CO_label
  have B_CO_label : Binds K _ ["self", "mark"] [] := F_CO_label.binds (ps := ["self", "mark"]) (fun _ _ _ _ _ _ us hl => match us, hl with | [_, _], _ => rfl)
  have M_CO_label : MAt K CO "label" "Order.label" s_Order_label ["self", "mark"] := ⟨_, _, F_CO_label, ⟨m_CO_label, y_CO_label, k_CO_label⟩, B_CO_label⟩
  have F_CO_label_at := fun_mk (st := s_Order__label_at) l_CO_label_at c_CO_label_at k_CO_label_at
  have B_CO_label_at : Binds K _ ["self", "at"] [] := F_CO_label_at.binds (ps := ["self", "at"]) (fun _ _ _ _ _ _ us hl => match us, hl with | [_, _], _ => rfl)
  have M_CO_label_at : MAt K CO "_label_at" "Order._label_at" s_Order__label_at ["self", "at"] := ⟨_, _, F_CO_label_at, ⟨m_CO_label_at, y_CO_label_at, k_CO_label_at⟩, B_CO_label_at⟩
  have F_CO_marks := fun_mk (st := s_Order_marks) l_CO_marks c_CO_marks k_CO_marks
  have B_CO_marks : Binds K _ ["self"] [] := F_CO_marks.binds (ps := ["self"]) (fun _ _ _ _ _ _ us hl => match us, hl with | [_], _ => rfl)
  have M_CO_marks : MAt K CO "marks" "Order.marks" s_Order_marks ["self"] := ⟨_, _, F_CO_marks, ⟨m_CO_marks, y_CO_marks, k_CO_marks⟩, B_CO_marks⟩
  have F_CO_anew := fun_mk (st := s_Order_anew) l_CO_anew c_CO_anew k_CO_anew
  have B_CO_anew : Binds K _ ["self"] [] := F_CO_anew.binds (ps := ["self"]) (fun _ _ _ _ _ _ us hl => match us, hl with | [_], _ => rfl)
  have M_CO_anew : MAt K CO "anew" "Order.anew" s_Order_anew ["self"] := ⟨_, _, F_CO_anew, ⟨m_CO_anew, y_CO_anew, k_CO_anew⟩, B_CO_anew⟩
  have F_CO_label_anew := fun_mk (st := s_Order__label_anew) l_CO_label_anew c_CO_label_anew k_CO_label_anew
  have B_CO_label_anew : Binds K _ ["self"] [] := F_CO_label_anew.binds (ps := ["self"]) (fun _ _ _ _ _ _ us hl => match us, hl with | [_], _ => rfl)
  have M_CO_label_anew : MAt K CO "_label_anew" "Order._label_anew" s_Order__label_anew ["self"] := ⟨_, _, F_CO_label_anew, ⟨m_CO_label_anew, y_CO_label_anew, k_CO_label_anew⟩, B_CO_label_anew⟩
  have F_CO_behind := fun_mk (st := s_Order_behind) l_CO_behind c_CO_behind k_CO_behind
  have B_CO_behind : Binds K _ ["self", "mark"] [] := F_CO_behind.binds (ps := ["self", "mark"]) (fun _ _ _ _ _ _ us hl => match us, hl with | [_, _], _ => rfl)
  have M_CO_behind : MAt K CO "behind" "Order.behind" s_Order_behind ["self", "mark"] := ⟨_, _, F_CO_behind, ⟨m_CO_behind, y_CO_behind, k_CO_behind⟩, B_CO_behind⟩
  have F_CO_drop := fun_mk (st := s_Order_drop) l_CO_drop c_CO_drop k_CO_drop
  have B_CO_drop : Binds K _ ["self", "mark"] [] := F_CO_drop.binds (ps := ["self", "mark"]) (fun _ _ _ _ _ _ us hl => match us, hl with | [_, _], _ => rfl)
  have M_CO_drop : MAt K CO "drop" "Order.drop" s_Order_drop ["self", "mark"] := ⟨_, _, F_CO_drop, ⟨m_CO_drop, y_CO_drop, k_CO_drop⟩, B_CO_drop⟩
  have F_CO_copied := fun_mk (st := s_Order_copied) l_CO_copied c_CO_copied k_CO_copied
  have B_CO_copied : Binds K _ ["self"] [] := F_CO_copied.binds (ps := ["self"]) (fun _ _ _ _ _ _ us hl => match us, hl with | [_], _ => rfl)
  have M_CO_copied : MAt K CO "copied" "Order.copied" s_Order_copied ["self"] := ⟨_, _, F_CO_copied, ⟨m_CO_copied, y_CO_copied, k_CO_copied⟩, B_CO_copied⟩
  have F_CO_init := fun_mk (st := s_Order___init__) l_CO_init c_CO_init k_CO_init
  have B_CO_init : Binds K _ ["self"] [] := F_CO_init.binds (ps := ["self"]) (fun _ _ _ _ _ _ us hl => match us, hl with | [_], _ => rfl)
  have M_CO_init : MAt K CO "__init__" "Order.__init__" s_Order___init__ ["self"] := ⟨_, _, F_CO_init, ⟨m_CO_init, y_CO_init, k_CO_init⟩, B_CO_init⟩
  have ET : Gc.ErrTxt l.prog K CT fT "TooMany.__init__" _ :=
    { cls := ⟨nmT, qT, NT, bsT, _, snT, subT, abT, colT, ddT, m0T, m1T, m2T, m3T, m5T, xT, by rfl⟩, sa := saT, ga := gaT, gg := ggT, noN := nnT, iC := iiT, tC := ttT, kC := kkT, exC := eeT, veC := veT, tyC := tyT, hdC := hdT, sub := mmT, sup := suT, op := op, zs := zs, htop := htop,
      fn := ⟨ocT, odT, dcT, pmT, anT, cdaT, ccT, ctT, slT, kdT, p1T, p2T, p3T, p4T, p5T, p6T, q1T, q2T, q3T, q4T, r1T, r2T, cclT, clT, cddT, cldT, vsT, ccsT, cslT, fileT, tfT, llT, ciT, dlT, fvT, flT, zcT, plT⟩ }
  refine ⟨PySem.W.fnOf "law" "law" (defArgs s_law) (defBody s_law) (defScope s_law) .none kV11 dc11 pm11 an11 cd11 ct11, fun s v => .of_eq rfl, fun base _ _ => ?_⟩
  have T : Txt K mg := ⟨PySem.W.mg_none_of X G z_len, PySem.W.mg_none_of X G z_max, PySem.W.mg_none_of X G z_min, PySem.W.mg_none_of X G z_range, PySem.W.mg_none_of X G z_repr, PySem.W.mg_none_of X G z_isinstance, PySem.W.mg_none_of X G z_enumerate, PySem.W.mg_none_of X G z_int, PySem.W.mg_none_of X G z_bool, PySem.W.mg_none_of X G z_list, PySem.W.mg_none_of X G z_dict, ⟨t_MOST_MARKS, PySem.W.mg_of X G i_MOST_MARKS⟩, ⟨t_LABELS, PySem.W.mg_of X G i_LABELS⟩⟩
  have R : ErrT l.prog K mg CT fT := ⟨ET, PySem.W.mg_of X G aT, exm_self iT tyT eeT ssT⟩
  have OC : OrdC K CO := ⟨cl_CO, no_CO__marks, no_CO__labels, no_CO__given, no_CO__times⟩
  have c_wh := ok_whI (P := l.prog) (w := w) (base := base) T d_is_whole
  have many := ok_many (P := l.prog) (w := w) (base := base) T OC M_CO_many
  have need := ok_need T OC c_wh M_CO_need_mark
  have label := ok_label T OC need M_CO_label
  have labat := ok_labat T OC many M_CO_label_at
  have marks := ok_marks (P := l.prog) (w := w) (base := base) T OC M_CO_marks
  have times := ok_times (P := l.prog) (w := w) (base := base) T OC M_CO_anew
  have anew := ok_anew T OC many M_CO_label_anew
  have behind := ok_behind T OC many need labat anew M_CO_behind
  have full := ok_full T R OC many need labat anew M_CO_behind
  have drop := ok_drop T OC many need M_CO_drop
  have cO := PySem.W.mg_of X G a_CO
  have mk : Mk K CO f_CO_init := ⟨mk_CO, m_CO_init, y_CO_init, kp_CO⟩
  have gi := fn_init (P := l.prog) (w := w) (base := base) T OC F_CO_init
  have copied := ok_copied T OC cO mk B_CO_init gi M_CO_copied
  have c_cell := ok_cell (P := l.prog) (w := w) (base := base) T d__law_cell_at
  have c_box := ok_box (P := l.prog) (w := w) (base := base) T d__law_box
  have c_take := ok_take (P := l.prog) (w := w) (base := base) T d__law_take
  have c_end := ok_end (P := l.prog) (w := w) (base := base) T d__law_end
  have c_put := ok_put T c_end d__law_put
  have c_newest := ok_newest (P := l.prog) (w := w) (base := base) T d__law_newest
  have c_right := ok_right T label times marks d__law_right
  have c_step := ok_step T drop behind c_take c_put c_newest d__law_step
  have c_refd := ok_refused T R full c_right d__law_refused
  have c_full := ok_lfull T drop behind c_put c_refd c_right d__law_full
  exact ok_law T OC F_law cO mk B_CO_init gi copied c_cell c_box c_take c_step c_right c_full
end K13
open PySem PySem.W PyProof.Rows
set_option maxRecDepth 100000 in
set_option maxHeartbeats 0 in
theorem PySem.Challenge.cw_makeskept_k13_labels_by_the_rule_holds : PySem.Challenge.rw_makeskept_k13_labels_by_the_rule.Holds := by
  w_on; o_law; k_head; (case hw => w_witness2)
  k_fill
  refine Gd.walkG (l := PySem.Challenge.rw_makeskept_k13_labels_by_the_rule) (n := 63) (k := 7) (x := "_law_script") (CX := fun _ => L2.CX0) (sp := fun w => K13.spLaw _) rfl (by decide) rfl ⟨rfl, by decide, by decide⟩ (fun w h Y => PySem.W.kIn_of Y) ?F (fun _ _ a ns hl _ hS => ⟨a, ns, rfl, hS, hl, fun _ => rfl⟩) (fun _ _ _ _ _ h => h)
  case F =>
    intro w mg fa h KX G hmg
    refine' K13.all_mk KX G hmg ?a0 ?l0 ?c0 ?k0 ?a1 ?l1 ?c1 ?k1 ?a2 ?l2 ?c2 ?k2 ?a3 ?l3 ?c3 ?k3 ?a4 ?l4 ?c4 ?k4 ?a5 ?l5 ?c5 ?k5 ?a6 ?l6 ?c6 ?k6 ?a7 ?l7 ?c7 ?k7 ?a8 ?l8 ?c8 ?k8 ?a9 ?l9 ?c9 ?k9 ?a10 ?l10 ?c10 ?k10 ?a11 ?l11 ?c11 ?k11 ?z_len ?z_max ?z_min ?z_range ?z_repr ?z_isinstance ?z_enumerate ?z_int ?z_bool ?z_list ?z_dict ?i_MOST_MARKS ?i_LABELS ?a_CO ?pg_CO ?hd_CO ?po_CO ?sa_CO ?no_CO__marks ?no_CO__labels ?no_CO__given ?no_CO__times ?mk_CO ?kp_CO ?m_CO_many ?l_CO_many ?c_CO_many ?k_CO_many ?y_CO_many ?m_CO_need_mark ?l_CO_need_mark ?c_CO_need_mark ?k_CO_need_mark ?y_CO_need_mark ?m_CO_label ?l_CO_label ?c_CO_label ?k_CO_label ?y_CO_label ?m_CO_label_at ?l_CO_label_at ?c_CO_label_at ?k_CO_label_at ?y_CO_label_at ?m_CO_marks ?l_CO_marks ?c_CO_marks ?k_CO_marks ?y_CO_marks ?m_CO_anew ?l_CO_anew ?c_CO_anew ?k_CO_anew ?y_CO_anew ?m_CO_label_anew ?l_CO_label_anew ?c_CO_label_anew ?k_CO_label_anew ?y_CO_label_anew ?m_CO_behind ?l_CO_behind ?c_CO_behind ?k_CO_behind ?y_CO_behind ?m_CO_drop ?l_CO_drop ?c_CO_drop ?k_CO_drop ?y_CO_drop ?m_CO_copied ?l_CO_copied ?c_CO_copied ?k_CO_copied ?y_CO_copied ?m_CO_init ?l_CO_init ?c_CO_init ?k_CO_init ?y_CO_init ?op ?zs ?htop ?aE ?iE ?yE ?eE ?aT ?xT ?saT ?gaT ?ggT ?nnT ?iiT ?ttT ?kkT ?eeT ?veT ?tyT ?hdT ?mmT ?suT ?llT ?ciT ?dlT ?fvT ?flT ?zcT ?plT ?h1T ?h2T ?h3T ?h4T ?smT ?ssT ?iT
    (case a0 => k_is)
    (case l0 => k_is)
    (case c0 => k_is)
    (case k0 => k_is)
    (case a1 => k_is)
    (case l1 => k_is)
    (case c1 => k_is)
    (case k1 => k_is)
    (case a2 => k_is)
    (case l2 => k_is)
    (case c2 => k_is)
    (case k2 => k_is)
    (case a3 => k_is)
    (case l3 => k_is)
    (case c3 => k_is)
    (case k3 => k_is)
    (case a4 => k_is)
    (case l4 => k_is)
    (case c4 => k_is)
    (case k4 => k_is)
    (case a5 => k_is)
    (case l5 => k_is)
    (case c5 => k_is)
    (case k5 => k_is)
    (case a6 => k_is)
    (case l6 => k_is)
    (case c6 => k_is)
    (case k6 => k_is)
    (case a7 => k_is)
    (case l7 => k_is)
    (case c7 => k_is)
    (case k7 => k_is)
    (case a8 => k_is)
    (case l8 => k_is)
    (case c8 => k_is)
    (case k8 => k_is)
    (case a9 => k_is)
    (case l9 => k_is)
    (case c9 => k_is)
    (case k9 => k_is)
    (case a10 => k_is)
    (case l10 => k_is)
    (case c10 => k_is)
    (case k10 => k_is)
    (case a11 => k_is)
    (case l11 => k_is)
    (case c11 => k_is)
    (case k11 => k_is)
    (case z_len => k_is)
    (case z_max => k_is)
    (case z_min => k_is)
    (case z_range => k_is)
    (case z_repr => k_is)
    (case z_isinstance => k_is)
    (case z_enumerate => k_is)
    (case z_int => k_is)
    (case z_bool => k_is)
    (case z_list => k_is)
    (case z_dict => k_is)
    (case i_MOST_MARKS => k_is)
    (case i_LABELS => k_is)
    (case a_CO => k_is)
    (case pg_CO => k_is)
    (case hd_CO => k_is)
    (case po_CO => k_is)
    (case sa_CO => k_is)
    (case no_CO__marks => k_is)
    (case no_CO__labels => k_is)
    (case no_CO__given => k_is)
    (case no_CO__times => k_is)
    (case mk_CO => k_is)
    (case kp_CO => k_is)
    (case m_CO_many => k_is)
    (case l_CO_many => k_is)
    (case c_CO_many => k_is)
    (case k_CO_many => k_is)
    (case y_CO_many => k_is)
    (case m_CO_need_mark => k_is)
    (case l_CO_need_mark => k_is)
    (case c_CO_need_mark => k_is)
    (case k_CO_need_mark => k_is)
    (case y_CO_need_mark => k_is)
    (case m_CO_label => k_is)
    (case l_CO_label => k_is)
    (case c_CO_label => k_is)
    (case k_CO_label => k_is)
    (case y_CO_label => k_is)
    (case m_CO_label_at => k_is)
    (case l_CO_label_at => k_is)
    (case c_CO_label_at => k_is)
    (case k_CO_label_at => k_is)
    (case y_CO_label_at => k_is)
    (case m_CO_marks => k_is)
    (case l_CO_marks => k_is)
    (case c_CO_marks => k_is)
    (case k_CO_marks => k_is)
    (case y_CO_marks => k_is)
    (case m_CO_anew => k_is)
    (case l_CO_anew => k_is)
    (case c_CO_anew => k_is)
    (case k_CO_anew => k_is)
    (case y_CO_anew => k_is)
    (case m_CO_label_anew => k_is)
    (case l_CO_label_anew => k_is)
    (case c_CO_label_anew => k_is)
    (case k_CO_label_anew => k_is)
    (case y_CO_label_anew => k_is)
    (case m_CO_behind => k_is)
    (case l_CO_behind => k_is)
    (case c_CO_behind => k_is)
    (case k_CO_behind => k_is)
    (case y_CO_behind => k_is)
    (case m_CO_drop => k_is)
    (case l_CO_drop => k_is)
    (case c_CO_drop => k_is)
    (case k_CO_drop => k_is)
    (case y_CO_drop => k_is)
    (case m_CO_copied => k_is)
    (case l_CO_copied => k_is)
    (case c_CO_copied => k_is)
    (case k_CO_copied => k_is)
    (case y_CO_copied => k_is)
    (case m_CO_init => k_is)
    (case l_CO_init => k_is)
    (case c_CO_init => k_is)
    (case k_CO_init => k_is)
    (case y_CO_init => k_is)
    (case op => k_is)
    (case zs => k_is)
    (case htop => first | rfl | decide +kernel)
    (case aE => k_is)
    (case iE => k_is)
    (case yE => k_is)
    (case eE => k_is)
    (case aT => k_is)
    (case xT => k_is)
    (case saT => k_is)
    (case gaT => k_is)
    (case ggT => k_is)
    (case nnT => k_is)
    (case iiT => k_is)
    (case ttT => k_is)
    (case kkT => k_is)
    (case eeT => k_is)
    (case veT => k_is)
    (case tyT => k_is)
    (case hdT => k_is)
    (case mmT => k_is)
    (case suT => ks_is)
    (case llT => k_is)
    (case ciT => k_is)
    (case dlT => k_is)
    (case fvT => rfl)
    (case flT => first | rfl | decide +kernel)
    (case zcT => k_is)
    (case plT => rfl)
    (case h1T => k_is)
    (case h2T => k_is)
    (case h3T => k_is)
    (case h4T => k_is)
    (case smT => k_is)
    (case ssT => k_is)
    (case iT => k_is)

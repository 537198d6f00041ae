import PyProof.Rows.All
import Wide.All
import OpenK.AllK
import Wide.FinOn
import HandS.ForMost
import HandS.IsInst
import HandS.TupLe
import PyProof.ReprLen
import KE.KExcLine
import HandS.Exc
import HandS.ExcOwn
import HandS.WordsExc
import KE.KExcIs
import HandS.TryOnly
import HandS.Nested
import KE.KSuper
import HandS.Codes
import HandS.Style
import HandS.Walk
import KE.RegKSuper
import PySem.Challenge.RW_makeskept_k06_trees_grown
set_option Elab.async false
set_option linter.all false
set_option maxRecDepth 100000
set_option maxHeartbeats 4000000
/-! A promise of a def that is kept where nothing is being shown (no repr under way), and repr of data under it. -/
namespace Gd
open PySem PySem.Spec PyProof.Rows L2

/-- as FnOk, asked only where no repr is under way -/
structure FnG (P : Program) (w : World) (K : PySem.W.Frag) (mg : Str → Option Value) (base : Heap)
    (CX : CXT) (k : Nat) (f : Addr) (fd : FuncData) (ps : List Str) (sp : Sp) : Prop where
  arity : ∀ vs H Q E, sp vs H Q E → vs.length = ps.length
  go : ∀ (A : Around) (outer : List Env) (s : Shared) (H : Hp) (args : Args) (us : List Value) (vs : List V)
    (Q : VK) (E : XK), A.guards = some [] → Room k A → Env0 P w K mg base A outer s H →
    BindsTo s fd args (ps.zip us) → Vals vs us → sp vs H Q E →
    codeAny (model P w) A (.call (.ref f) args) (CR CX outer P w H s Q E) s

section
variable {P : Program} {w : World} {K : PySem.W.Frag} {mg : Str → Option Value} {base : Heap}
theorem FnG.low {CX : CXT} {j k : Nat} {f : Addr} {fd : FuncData} {ps : List Str} {sp : Sp}
    (F : FnG P w K mg base CX j f fd ps sp) (h : j ≤ k) : FnG P w K mg base CX k f fd ps sp :=
  ⟨F.arity, fun A o s H ar us vs Q E g r => F.go A o s H ar us vs Q E g (r.mono h)⟩
theorem FnG.ofOk {CX : CXT} {k : Nat} {f : Addr} {fd : FuncData} {ps : List Str} {sp : Sp}
    (F : FnOk P w K mg base CX k f fd ps sp) : FnG P w K mg base CX k f fd ps sp :=
  ⟨F.len, fun A o s H ar us vs Q E _ r => F.run A o s H ar us vs Q E r⟩

/-- the rule for a def, told that no repr is under way -/
theorem fnG_of {CX : CXT} {k : Nat} {f : Addr} {name qual : Str} {params : Arguments} {body : List Stmt}
    {scope : Scope} {dV kV doc pm cdv ct oc : Value} {an od : Option Addr} {osl : Array (Option Value)}
    {N ps : List Str} {sp : Sp}
    (lk : K.lookup f = some ⟨oc, od, .func (PySem.W.fnOf name qual params body scope dV kV doc pm an cdv ct), osl⟩)
    (cin : PySem.W.codeIn K cdv qual = true) (S : FnScope N ps scope)
    (ar : ∀ vs H Q E, sp vs H Q E → vs.length = ps.length)
    (bd : ∀ (A : Around) (outer : List Env) (s : Shared) (H : Hp) (vs : List V) (Q : VK) (E : XK),
      A.guards = some [] → Room k (A.deeper (envOfC qual scope s.heap.objs.size f cdv)) → sp vs H Q E →
      ∃ t, PSs (cxOf CX P w K mg base N qual scope f cdv A outer s H E) body t ∧
        t { nx := fun _ H' => Q .non H', rt := Q } (start N vs) H) :
    FnG P w K mg base CX (k + 1) f (PySem.W.fnOf name qual params body scope dV kV doc pm an cdv ct) ps sp := by
  constructor
  · exact ar
  intro A outer s H args us vs Q E hG room env bind rel prem
  have long := ar _ _ _ _ prem
  have kin : K.In s.heap := env.mod.kin.keeps fun b o z => (env.bs b o z).1
  have nl : s.heap.NoLimit := env.mod.nolimit.keeps fun b o z => (env.bs b o z).1
  have kinds : ∀ y ∈ ps.zip us, scope.names.lookup y.1 = some .local ∨
      (scope.names.lookup y.1 = some .cell ∧
        ((cellsFrom (s.heap.objs.size + 1) scope.names []).lookup y.1).isSome = true) := by
    rintro ⟨n, v⟩ hy
    cases S.par n (List.of_mem_zip hy).1 with
    | inl q => exact .inl q
    | inr q => exact .inr ⟨q, PySem.W.cellsFrom_some _ _ _ (.inl q)⟩
  apply codeAny_call_function room.depth (kin _ _ lk) rfl S.co S.gen rfl (PySem.W.codeRec_of kin cin)
  apply bind
  apply wpAny_newFunctionEnv_cells S.kind kinds
  intro en hen s1 x
  subst hen
  refine ⟨nl.keeps x.toInCall.keep, ?_⟩
  apply codeAny_func
  obtain ⟨t, der, rd⟩ := bd A outer s H vs Q E hG (room.deeper _) prem
  have J := inv_start (CX := CX) (E := E) (mg := mg) S room.hd env long rel x
  apply wpAny_mono (der.run [] s1 (start N vs) H _ J rd)
  · intro fl s' hs
    cases fl with
    | ret u =>
      obtain ⟨v, _, H', J', rv, q⟩ := hs
      exact ⟨v, H', J'.os, J'.bare, J'.base, J'.hok, rv, q⟩
    | next =>
      obtain ⟨_, H', J', q⟩ := hs
      exact ⟨.non, H', J'.os, J'.bare, J'.base, J'.hok, rfl, q⟩
    | brk =>
      obtain ⟨_, _, _, q⟩ := hs
      exact q.elim
    | cont =>
      obtain ⟨_, _, _, q⟩ := hs
      exact q.elim
  · intro e s' hs
    exact hs
theorem okG {x qual : Str} {st : Stmt} {f : Addr} {fd : FuncData} {N ps : List Str} {k : Nat} {sp : Sp}
    (F : Fun K x qual st f fd) (S : FnScope N ps (defScope st))
    (ar : ∀ vs H Q E, sp vs H Q E → vs.length = ps.length)
    (bd : ∀ (cdv : Value) (A : Around) (outer : List Env) (s : Shared) (H : Hp) (vs : List V) (Q : VK) (E : XK),
      A.guards = some [] → Room k (A.deeper (envOfC qual (defScope st) s.heap.objs.size f cdv)) → sp vs H Q E →
      ∃ t, PSs (cxOf CX0 P w K mg base N qual (defScope st) f cdv A outer s H E).nox (defBody st) t ∧
        t { nx := fun _ H' => Q .non H', rt := Q } (start N vs) H) :
    FnG P w K mg base CX0 (k + 1) f fd ps sp := by
  obtain ⟨oc, od, kV, doc, pm, an, cdv, ct, osl, rfl, lk, cin⟩ := F.ex
  apply fnG_of lk cin S ar
  intro A outer s H vs Q E hG room prem
  obtain ⟨t, der, rd⟩ := bd cdv A outer s H vs Q E hG room prem
  exact ⟨t, der.nox, rd⟩
end

section
variable {X : Cx} {CX : CXT} {k : Nat} {f : Addr} {fd : FuncData} {ps : List Str} {sp : Sp} {dvs : List V}
  {ds : List Value} {E : XK} {x : Str} {p pos : Pos} {e : Expr} {es : List Expr} {t : TA}
theorem enterG {pins : List (Addr × Obj)} {σ : L2.St} {H : Hp} {s : Shared} {Q : VK} {us : List Value} {vs : List V}
    (F : FnG X.prog X.w X.K X.mg X.base CX k f fd ps sp) (hG : X.A.guards = some []) (hr : Room k X.A)
    (hb : Binds X.K fd ps ds) (hd : Vals dvs ds) (hx : Passes CX X E) (J : Inv X pins σ H s) (rel : Vals vs us)
    (prem : sp (vs ++ dvs) H Q E) :
    wpAny (model X.prog X.w) X.A (call (.ref f) us) (EP X pins σ Q) X.xe s := by
  have rel2 : Vals (vs ++ dvs) (us ++ ds) := rel.append hd
  have long : (us ++ ds).length = ps.length := rel2.length ▸ F.arity _ _ _ _ prem
  apply wpAny_call
  apply codeAny_mono (F.go X.A X.stack s H ⟨us, []⟩ (us ++ ds) (vs ++ dvs) Q E hG hr J.env0 (hb s us J.kIn long)
    rel2 prem)
  intro r s' hq
  match r, hq with
  | .error _, hq => exact hx pins σ H s _ s' J hq
  | .ok (.ret _), hq => exact J.after hq
  | .ok .next, hq => exact hq.elim
  | .ok .brk, hq => exact hq.elim
  | .ok .cont, hq => exact hq.elim
/-- f(e, ..) of a def that keeps its promise where no repr is under way -/
theorem pe_callG (F : FnG X.prog X.w X.K X.mg X.base CX k f fd ps sp) (hG : X.A.guards = some []) (hr : Room k X.A)
    (hg : Gl X x) (hm : X.mg x = some (.ref f)) (hk : PySem.W.keepIn X.K (.ref f) = true) (hb : Binds X.K fd ps ds)
    (hd : Vals dvs ds) (hx : Passes CX X E) (ha : PA X (e :: es) t)
    (hdb : (x == ("__debug__" : Str)) = false := by decide)
    (he : starEach (e :: es) X.env = (false, eval e X.env) :: starEach es X.env := by rfl)
    (hpl : (backTo pos (starEach es X.env)).any (·.1) = false := by rfl) :
    PE X (.Call (.Name x p) (e :: es) [] pos) (tCall sp dvs E t) := by
  constructor
  intro pins s σ H Q J prem
  have arg := ha.run pos pins s σ H _ J prem
  apply wpAny_Call_Name_kw
  apply ld_glob J hg hm (hd := hdb)
  apply PySem.W.callWith_K (h₀ := X.base) J.ok.mod.kin hk (he := he) (hplain := hpl)
  apply thn arg
  rintro us s1 ⟨vs, H1, J1, rel, q⟩
  exact ⟨J1.kIn, enterG F hG hr hb hd hx J1 rel q⟩
end
end Gd
namespace Gd
open PySem PySem.Spec PyProof.Rows L2
section
variable {P : Program} {w : World} {K : PySem.W.Frag} {mg mb : Str → Option Value} {CX : CXT} {k : Nat} {fa a : Addr}
  {fd : FuncData} {x : Str} {sp : Sp} {s₁ : Shared} {vs : List Value} {ns : List Int}
/-- the law's call from one abstract heap that tracks at most the script -/
theorem callOne (kin : K.In s₁.heap) (gl : s₁.heap.Ns mainGlobals mg) (bl : s₁.heap.Ns builtinsNs mb)
    (bb : ∀ x : Str, x ≠ "__name__" → mb x = bootBuiltins x) (nl : s₁.heap.NoLimit) (gn : s₁.gens = #[])
    (at_ : s₁.heap.get? a = some { cls := .type "list", data := .seq vs.toArray }) (room : Room k callerA)
    (F : ∀ base : Heap, K.In base → base.Ns mainGlobals mg → FnG P w K mg base CX k fa fd [x] sp)
    (bind : ∀ (s : Shared) (u : Value), BindsTo s fd ⟨[u], []⟩ [(x, u)])
    (H : Hp) (only : Only H) (prem : sp [.ref a] H (fun v _ => v = .bl true) fun _ _ _ => False)
    (noX : ∀ e s', CX [] H s₁ (fun _ _ _ => False) e s' → False)
    (hok : HOk P w H s₁.heap) (here : ∀ b, H b ≠ none → b = a) (out : H a ≠ none → K.lookup a = none) :
    codeAny (model P w) callerA (.call (.ref fa) ⟨[.ref a], []⟩)
      (fun r s' => r = .ok (.ret (.bool true)) ∧ OldK s₁.heap s'.heap ∧ s'.os = s₁.os ∧ AllBare s'.gens) s₁ := by
  have free : ∀ {b : Addr} {o : Obj} {es : Array DictEntry} {ep : Nat},
      s₁.heap.get? b = some o → o.data = .dict es ep → H b = none := by
    intro b o es ep z dd
    refine Classical.byContradiction fun q => ?_
    have hb := here b q
    rw [hb, at_] at z
    injection z with z
    rw [← z] at dd
    injection dd
  have nsOf : ∀ {b : Addr} {m : Str → Option Value}, s₁.heap.Ns b m → (hidT s₁.heap H).Ns b m := by
    rintro b m ⟨o, es, ep, z, dd, r⟩
    exact ⟨o, es, ep, hidT_get z (free z dd), dd, r⟩
  have kinB : K.In (hidT s₁.heap H) := by
    intro b o z
    refine hidT_get (kin b o z) (Classical.byContradiction fun q => ?_)
    have hb := here b q
    rw [hb] at z q
    rw [out q] at z
    injection z
  have modB : Mod K mg (hidT s₁.heap H) := by
    obtain ⟨mc, l1, l2⟩ := nl
    exact ⟨kinB, nsOf gl, ⟨mb, nsOf bl, bb⟩, ⟨mc, nsOf l1, l2⟩⟩
  have env : Env0 P w K mg (hidT s₁.heap H) callerA [] s₁ H := by
    refine ⟨rfl, modB, fun b o z => of_hidT z, Nat.le_of_eq (hidT_size _ _), trivial, ?_, hok, .of_eq gn⟩
    intro b hb
    exact absurd (show b ∈ ([] : List Addr) from hb) List.not_mem_nil
  have ran := (F _ kinB (nsOf gl)).go callerA [] s₁ H ⟨[.ref a], []⟩ [.ref a] [.ref a] _ _ rfl room env
    (bind s₁ (.ref a)) (.cons rfl .nil) prem
  apply codeAny_mono ran
  intro r s' q
  match r, q with
  | .error _, q => exact (noX _ _ q).elim
  | .ok .next, q => exact q.elim
  | .ok .brk, q => exact q.elim
  | .ok .cont, q => exact q.elim
  | .ok (.ret u), q =>
    obtain ⟨v, H', os, bare, un, hok', rv, ev⟩ := q
    have ev' : v = .bl true := ev
    subst ev'
    have hu : u = Value.bool true := rv
    subst hu
    refine ⟨rfl, ?_, os, bare⟩
    apply OldK.of_keep
    intro b o z
    have nob : b ∉ ([] : List Addr) := List.not_mem_nil
    cases q : H b with
    | none => exact un.keep b o z q nob nob
    | some u =>
      cases only b with
      | inl z0 =>
        rw [q] at z0
        injection z0
      | inr z0 =>
        obtain ⟨ob, xs, z1⟩ := z0
        have y1 := (hok b _ z1).1
        have y2 := (hok' b _ (un.frzs b ob _ z1)).1
        rw [z] at y1
        injection y1 with y1
        rw [y1]
        exact y2
theorem callG (kin : K.In s₁.heap) (gl : s₁.heap.Ns mainGlobals mg) (bl : s₁.heap.Ns builtinsNs mb)
    (bb : ∀ x : Str, x ≠ "__name__" → mb x = bootBuiltins x) (nl : s₁.heap.NoLimit) (gn : s₁.gens = #[])
    (at_ : s₁.heap.get? a = some { cls := .type "list", data := .seq vs.toArray }) (hin : IntsAre vs ns)
    (short : ns.length ≤ sizeLine) (room : Room k callerA)
    (F : ∀ base : Heap, K.In base → base.Ns mainGlobals mg → FnG P w K mg base CX k fa fd [x] sp)
    (bind : ∀ (s : Shared) (u : Value), BindsTo s fd ⟨[u], []⟩ [(x, u)])
    (prem : ∀ H : Hp, Only H → SqL K H a (ns.map V.int) → sp [.ref a] H (fun v _ => v = .bl true) fun _ _ _ => False)
    (noX : ∀ H e s', CX [] H s₁ (fun _ _ _ => False) e s' → False) :
    codeAny (model P w) callerA (.call (.ref fa) ⟨[.ref a], []⟩)
      (fun r s' => r = .ok (.ret (.bool true)) ∧ OldK s₁.heap s'.heap ∧ s'.os = s₁.os ∧ AllBare s'.gens) s₁ := by
  have rv := vals_ints hin
  have lens := hin.length
  cases hk : K.lookup a with
  | some o =>
    have z := kin a o hk
    rw [at_] at z
    injection z with z
    subst z
    have only : Only (fun _ => none) := fun _ => .inl rfl
    refine callOne kin gl bl bb nl gn at_ room F bind (fun _ => none) only (prem _ only ?_) (noX _)
      (fun b u z => ?_) (fun b z => absurd rfl z) fun z => absurd rfl z
    · refine .inr ⟨_, vs.toArray, _, hk, rfl, rfl, rfl, ?_, ?_⟩
      · rw [List.size_toArray, lens]
        exact short
      · simpa using rv
    · have z' : (none : Option HO) = some u := z
      injection z'
  | none =>
    let T : HO := .frz { cls := .type "list", data := .seq vs.toArray } (.lst (ns.map V.int))
    have only : Only (fun b => if b = a then some T else none) := fun b => by
      by_cases hb : b = a
      · exact .inr ⟨_, _, if_pos hb⟩
      · exact .inl (if_neg hb)
    refine callOne kin gl bl bb nl gn at_ room F bind (fun b => if b = a then some T else none) only
      (prem _ only (.inl (.inr ⟨{ cls := .type "list", data := .seq vs.toArray }, if_pos rfl⟩))) (noX _)
      (fun b u z => ?_) (fun b z => ?_) fun _ => hk
    · by_cases hb : b = a
      · have z' : some T = some u := (if_pos hb).symm.trans z
        injection z' with z'
        subst z'
        subst hb
        refine ⟨at_, ?_, vs, _, rv, at_⟩
        rw [List.length_map]
        exact short
      · have z' : (none : Option HO) = some u := (if_neg hb).symm.trans z
        injection z'
    · refine Classical.byContradiction fun hb => z (if_neg hb)
end
/-- the goal that k_head leaves, from the law's promise under FnG -/
theorem walkG {l : PySem.W.OpenLaw} {n k : Nat} {q : Program} {loose : List Str} {XP : (Str → Option Value) → Heap → Prop}
    {YP : World → Heap → Prop} {d : DefRec} {K : Params → PySem.W.Frag} {CX : World → CXT} {sp : World → Sp} {x : Str}
    (most : l.most = some n) (line : n ≤ sizeLine) (nod : d.params.defaults = []) (room : Room k callerA)
    (kin : ∀ (w : World) (h : Heap), YP w h → (K w.params).In h)
    (F : ∀ (w : World) (mg : Str → Option Value) (fa : Addr) (h : Heap),
      (K w.params).In h → h.Ns mainGlobals mg → mg d.name = some (.ref fa) →
      ∃ fd : FuncData, (∀ (s : Shared) (u : Value), BindsTo s fd ⟨[u], []⟩ [(x, u)]) ∧
        ∀ base : Heap, (K w.params).In base → base.Ns mainGlobals mg →
          FnG l.prog w (K w.params) mg base (CX w) k fa fd [x] (sp w))
    (prem : ∀ (w : World) (H : Hp) (a : Addr) (ns : List Int), ns.length ≤ n → Only H →
      SqL (K w.params) H a (ns.map V.int) → sp w [.ref a] H (fun v _ => v = .bl true) fun _ _ _ => False)
    (noX : ∀ (w : World) (H : Hp) (s : Shared) (e : Value) (s' : Shared),
      CX w [] H s (fun _ _ _ => False) e s' → False) :
    PySem.W.WalkO q loose XP YP l.row.toRowW d [] (fun f vs => PySem.call f vs) := by
  apply Att.attach_call most nod
  intro w s₀ s₁ mg mb fa o pm cd doc a vs ns G Y ho hd hcd hmg hobj hints hlen hg
  have kx := kin w _ Y
  obtain ⟨fd, hb, hF⟩ := F w mg fa _ kx G.T.g hmg
  refine callG kx G.T.g G.T.b G.T.builtins G.T.nolimit hg hobj hints (Nat.le_trans hlen line) room hF hb ?_ ?_
  · intro H hO hS
    exact prem w H a ns hlen hO hS
  · intro H e s'
    exact noX w H s₁ e s'
end Gd
namespace Gd
open PySem PySem.Spec PyProof.Rows L2
/-- plain data, or an empty dict -/
inductive D1 (K : PySem.W.Frag) (H : Hp) : V → PyData → Prop
  | dp {v : V} {d : PyData} (h : Dp K H v d) : D1 K H v d
  | emp {a : Addr} (h : H a = some (.dK [])) : D1 K H (.ref a) (.dict [])
inductive D1s (K : PySem.W.Frag) (H : Hp) : List V → List PyData → Prop
  | nil : D1s K H [] []
  | cons {v : V} {vs : List V} {d : PyData} {ds : List PyData} : D1 K H v d → D1s K H vs ds → D1s K H (v :: vs) (d :: ds)
/-- such, or a list or a tuple of such -/
inductive D2 (K : PySem.W.Frag) (H : Hp) : V → PyData → Prop
  | d1 {v : V} {d : PyData} (h : D1 K H v d) : D2 K H v d
  | lst {a : Addr} {xs : List V} {ds : List PyData} : SqL K H a xs → D1s K H xs ds → D2 K H (.ref a) (.list ds)
  | tup {a : Addr} {xs : List V} {ds : List PyData} : SqT K H a xs → D1s K H xs ds → D2 K H (.ref a) (.tuple ds)

mutual
theorem noDict {K : PySem.W.Frag} {H : Hp} : ∀ {v : V} {d : PyData}, Dp K H v d → d.hasDict = false
  | _, _, .non => by simp only [PyData.hasDict]
  | _, _, .bl _ => by simp only [PyData.hasDict]
  | _, _, .int _ => by simp only [PyData.hasDict]
  | _, _, .str _ => by simp only [PyData.hasDict]
  | _, _, .lst _ ha => by
    simp only [PyData.hasDict]
    exact noDicts ha
  | _, _, .tup _ ha => by
    simp only [PyData.hasDict]
    exact noDicts ha
theorem noDicts {K : PySem.W.Frag} {H : Hp} : ∀ {vs : List V} {ds : List PyData}, DpAll K H vs ds → PyData.hasDictAll ds = false
  | _, _, .nil => by simp only [PyData.hasDictAll]
  | _, _, .cons h1 h2 => by simp only [PyData.hasDictAll, noDict h1, noDicts h2, Bool.or_self]
end

section
variable {X : Cx} {pins : List (Addr × Obj)} {σ : L2.St} {H : Hp} {s : Shared}
theorem D1.rd (I : Inv X pins σ H s) {v : V} {d : PyData} {u : Value} (h : D1 X.K H v d) (r : RelV v u) :
    ∃ as, Reads s.heap u d as ∧ (d.hasDict = true → sysModules ∉ as) := by
  cases h with
  | dp h =>
    obtain ⟨as, q⟩ := Dp.reads I d v u h r
    exact ⟨as, q, PyData.noDict_hsm (noDict h)⟩
  | @emp a h =>
    cases (show u = Value.ref a from r)
    obtain ⟨_, hs, vs, kv, o, es, ep, q⟩ := (show ObjOk X.prog X.w H s.heap a (.dK []) from I.hok a _ h)
    cases kv
    obtain ⟨e1, e2, e3, e4⟩ := q
    have e5 : es.toList = [] := by
      have e6 := e4.2.1
      generalize es.toList = l at e6 ⊢
      cases e6
      rfl
    refine ⟨_, Reads.dict (kvs := []) (as := []) (bs := []) e1 e2.1 e3 ?_ ?_, fun _ => ?_⟩
    · rw [e5]
      exact .nil
    · rw [e5]
      exact .nil
    · intro z
      have z' : sysModules = a := by simpa using z
      rw [← z'] at hs
      simp at hs
theorem D1s.rd (I : Inv X pins σ H s) : ∀ {vs : List V} {ds : List PyData} {us : List Value}, D1s X.K H vs ds → Vals vs us →
    ∃ as, ReadsAll s.heap us ds as
  | _, _, _, .nil, .nil => ⟨_, .nil⟩
  | _, _, _, .cons h1 h2, .cons r1 r2 => by
    obtain ⟨as, q1, _⟩ := h1.rd I r1
    obtain ⟨bs, q2⟩ := D1s.rd I h2 r2
    exact ⟨_, .cons q1 q2⟩
theorem D1.one (I : Inv X pins σ H s) {v : V} {d : PyData} {u : Value} (h : D1 X.K H v d) (r : RelV v u)
    (hs : d.showable = true) (hz : d.shown.length ≤ sizeLine) :
    ∃ bs, ReadAtMost s.heap d.depth bs ∧ ReprK X.prog X.w bs s.heap d.depth u d.shown := by
  obtain ⟨as, q, hm⟩ := h.rd I r
  exact ReprK.of_reads q hs hm hz
theorem D1s.each (I : Inv X pins σ H s) {n : Nat} : ∀ {vs : List V} {ds : List PyData} {us : List Value}, D1s X.K H vs ds → Vals vs us →
    PyData.showableAll ds = true → (∀ t ∈ PyData.shownAll ds, t.length ≤ sizeLine) → PyData.depthAll ds ≤ n →
    ∃ bs, ReadAtMost s.heap n bs ∧ ReprAllK X.prog X.w bs s.heap n us (PyData.shownAll ds)
  | _, _, _, .nil, .nil, _, _, _ => ⟨[], (fun _ z => nomatch z), by simp only [PyData.shownAll]; exact .nil⟩
  | _, _, _, .cons (d := d) (ds := ds) h1 h2, .cons r1 r2, hs, hz, hn => by
    have hs' : d.showable = true ∧ PyData.showableAll ds = true := by simpa [PyData.showableAll] using hs
    simp only [PyData.depthAll] at hn
    simp only [PyData.shownAll] at hz ⊢
    obtain ⟨b1, m1, k1⟩ := h1.one I r1 hs'.1 (hz _ List.mem_cons_self)
    obtain ⟨b2, m2, k2⟩ := D1s.each I h2 r2 hs'.2 (fun t ht => hz t (List.mem_cons_of_mem _ ht)) (by omega : PyData.depthAll ds ≤ n)
    refine ⟨b1 ++ b2, (m1.mono (by omega)).append m2, .cons ((k1.more fun b hb => List.mem_append_left _ hb).level_le (by omega)) (k2.more_le (fun b hb => List.mem_append_right _ hb) (Nat.le_refl _))⟩
end

/-- repr of such data where no repr is under way -/
def rRepr (K : PySem.W.Frag) : List V → Hp → VK → Prop := fun xs H Q => ∃ v d, xs = [v] ∧ D2 K H v d ∧ d.showable = true ∧
  d.shown.length ≤ sizeLine ∧ d.depth ≤ 60 ∧ Q (.str d.shown) H
section
variable {X : Cx}
theorem call_repr (hG : X.A.guards = some []) (hu : X.A.units + 64 < cLine) : CallR X (.builtin "repr") (rRepr X.K) := by
  intro pins s σ H xs us Q I rel h
  obtain ⟨v, d, rfl, hd, hs, hz, hdep, q⟩ := h
  obtain ⟨u, rfl, r⟩ := vals1 rel
  cases hd with
  | d1 h1 =>
    cases h1 with
    | dp hp =>
      cases hp with
      | non =>
        cases (show u = Value.none from r)
        simp only [PyData.shown] at q
        exact PySem.P.repr_of_none ⟨.str _, H, I.tok _, ⟨_, rfl⟩, q⟩
      | bl b =>
        cases (show u = Value.bool b from r)
        simp only [PyData.shown] at q
        exact PySem.P.repr_of_bool ⟨.str _, H, I.tok _, ⟨_, rfl⟩, q⟩
      | int i =>
        obtain ⟨t, rfl⟩ := (show ∃ t, u = Value.int i t from r)
        simp only [PyData.shown] at q
        exact PySem.P.repr_of_int (by simpa [PyData.showable] using hs) ⟨.str _, H, I.tok _, ⟨_, rfl⟩, q⟩
      | str x =>
        obtain ⟨t, rfl⟩ := (show ∃ t, u = Value.str x t from r)
        simp only [PyData.shown] at q hz
        exact PySem.P.repr_of_str ⟨.str _, H, I.tok _, ⟨_, rfl⟩, q⟩ hz
      | @lst a ys ds hl ha =>
        cases (show u = Value.ref a from r)
        obtain ⟨as, rd, hm⟩ := (D1.dp (.lst hl ha) : D1 X.K H (.ref a) (.list ds)).rd I rfl
        exact repr_of_reads' rd hs hm hG (by omega) (fun _ _ z => z) (fun h' u tk hk => ⟨.str _, H, I.kept hk, ⟨_, rfl⟩, q⟩) hz
      | @tup a ys ds hl ha =>
        cases (show u = Value.ref a from r)
        obtain ⟨as, rd, hm⟩ := (D1.dp (.tup hl ha) : D1 X.K H (.ref a) (.tuple ds)).rd I rfl
        exact repr_of_reads' rd hs hm hG (by omega) (fun _ _ z => z) (fun h' u tk hk => ⟨.str _, H, I.kept hk, ⟨_, rfl⟩, q⟩) hz
    | @emp a ha =>
      cases (show u = Value.ref a from r)
      obtain ⟨as, rd, hm⟩ := (D1.emp ha : D1 X.K H (.ref a) (.dict [])).rd I rfl
      exact repr_of_reads' rd hs hm hG (by omega) (fun _ _ z => z) (fun h' u tk hk => ⟨.str _, H, I.kept hk, ⟨_, rfl⟩, q⟩) hz
  | @lst a ys ds hl ha =>
    cases (show u = Value.ref a from r)
    obtain ⟨its, rv, ⟨o, n, ho, hc, _, ho2⟩, _⟩ := I.list hl
    obtain ⟨as, rda⟩ := ha.rd I rv
    have hz' : (listText (PyData.shownAll ds)).length ≤ sizeLine := by simpa only [PyData.shown] using hz
    simp only [PyData.depth] at hdep
    obtain ⟨bs, hb, hk⟩ := ha.each I rv (by simpa [PyData.showable] using hs) (fun t ht => Nat.le_trans (listText_mem_le ht) hz') (Nat.le_refl _)
    have hna : a ∉ bs := not_mem_of_deeper (.list ho hc ho2 rda) (by simp only [PyData.depth]; omega) hb
    simp only [PyData.shown] at q
    have ty : s.TypeIs (.ref a) "list" := ⟨o, ho, hc⟩
    have fin : ∀ h' u tk, (∀ b o, s.heap.get? b = some o → h'.get? b = some o) →
        EP X pins σ Q (.str (listText (PyData.shownAll ds)) u) { s with heap := h', toks := tk } :=
      fun h' u tk hk => ⟨.str _, H, I.kept hk, ⟨_, rfl⟩, q⟩
    refine call_repr_slot (by omega) ty PySem.F.slot_list_repr.toG ?_
    cases its with
    | nil =>
      cases rda
      simp only [PyData.shownAll, listText_nil] at fin
      exact call_list_repr_empty ty ho ho2 ⟨_, _, rfl, fin s.heap _ _ fun _ _ e => e⟩
    | cons x l =>
      exact call_list_reprK ho hc ho2 hna (by simpa using hk.length_eq) (fun i y e => hk.item i y (by simpa using e)) hG
        (fun b _ => Clear.nil b) (by show X.A.units + 1 + (_ + 1) < cLine; omega) (fun _ _ z => z) (fun h' u tk hk => ⟨_, _, rfl, fin h' u tk hk⟩) hz'
  | @tup a ys ds hl ha =>
    cases (show u = Value.ref a from r)
    obtain ⟨its, rv, ⟨o, ho, hc, n, ho2⟩, _⟩ := I.tuple hl
    obtain ⟨as, rda⟩ := ha.rd I rv
    have hz' : (tupleText (PyData.shownAll ds)).length ≤ sizeLine := by simpa only [PyData.shown] using hz
    simp only [PyData.depth] at hdep
    obtain ⟨bs, hb, hk⟩ := ha.each I rv (by simpa [PyData.showable] using hs) (fun t ht => Nat.le_trans (tupleText_mem_le ht) hz') (Nat.le_refl _)
    have hna : a ∉ bs := not_mem_of_deeper (.tuple ho hc ho2 rda) (by simp only [PyData.depth]; omega) hb
    simp only [PyData.shown] at q
    have ty : s.TypeIs (.ref a) "tuple" := ⟨o, ho, hc⟩
    refine call_repr_slot (by omega) ty PySem.F.slot_tuple_repr ?_
    exact call_tuple_reprK ho hc ho2 hna (by simpa using hk) hG (fun b _ => Clear.nil b) (by show X.A.units + 1 + (_ + 1) < cLine; omega) (fun _ _ z => z)
      (fun h' u tk hk => ⟨_, _, rfl, ⟨.str _, H, I.kept hk, ⟨_, rfl⟩, q⟩⟩) hz'
end
end Gd
namespace Gd
open PySem PySem.Spec PyProof.Rows L2
/-- a def of the top, with its name -/
structure DefAt (K : PySem.W.Frag) (mg : Str → Option Value) (x : Str) (st : Stmt) (ps : List Str) : Prop where
  ex : ∃ (f : Addr) (fd : FuncData), Fun K x x st f fd ∧ mg x = some (.ref f) ∧ Binds K fd ps []
/-- a def by its name, its promise kept where no repr is under way -/
structure CalG (P : Program) (w : World) (K : PySem.W.Frag) (mg : Str → Option Value) (base : Heap) (k : Nat) (x : Str) (sp : Sp) : Prop where
  ex : ∃ (f : Addr) (fd : FuncData) (ps : List Str), FnG P w K mg base CX0 k f fd ps sp ∧ mg x = some (.ref f) ∧
    PySem.W.keepIn K (.ref f) = true ∧ Binds K fd ps []
section
variable {P : Program} {w : World} {K : PySem.W.Frag} {mg : Str → Option Value} {base : Heap}
theorem DefAt.cal {x : Str} {st : Stmt} {N ps : List Str} {k : Nat} {sp : Sp} (D : DefAt K mg x st ps) (S : FnScope N ps (defScope st))
    (ar : ∀ vs H Q E, sp vs H Q E → vs.length = ps.length)
    (bd : ∀ (f : Addr) (cdv : Value) (A : Around) (outer : List Env) (s : Shared) (H : Hp) (vs : List V) (Q : VK) (E : XK),
      A.guards = some [] → Room k (A.deeper (envOfC x (defScope st) s.heap.objs.size f cdv)) → sp vs H Q E →
      ∃ t, PSs (cxOf CX0 P w K mg base N x (defScope st) f cdv A outer s H E).nox (defBody st) t ∧
        t { nx := fun _ H' => Q .non H', rt := Q } (start N vs) H) : CalG P w K mg base (k + 1) x sp := by
  obtain ⟨f, fd, F, m, b⟩ := D.ex
  exact ⟨f, fd, ps, okG F S ar (bd f), m, F.kp, b⟩
theorem DefAt.mk' {X : K.In base} {x : Str} {st : Stmt} {ps : List Str} {f : Addr} {oc : Value} {od an : Option Addr} {osl : Array (Option Value)} {kV doc pm cdv ct : Value}
    (m : mg x = some (.ref f))
    (l : K.lookup f = some ⟨oc, od, .func (PySem.W.fnOf x x (defArgs st) (defBody st) (defScope st) .none kV doc pm an cdv ct), osl⟩)
    (c : PySem.W.codeIn K cdv x = true) (k : PySem.W.keepIn K (.ref f) = true)
    (b : ∀ (kV doc pm : Value) (an : Option Addr) (cdv ct : Value) (us : List Value), us.length = ps.length →
      bindArgs (PySem.W.fnOf x x (defArgs st) (defBody st) (defScope st) .none kV doc pm an cdv ct) ⟨us, []⟩ = pure (ps.zip us)) :
    DefAt K mg x st ps := by
  have F := fun_mk (st := st) l c k
  exact ⟨f, _, F, m, F.binds b⟩
end
section
variable {X : Cx} {k : Nat} {sp : Sp} {x : Str} {p pos : Pos} {e : Expr} {es : List Expr} {t : TA}
theorem pe_g (c : CalG X.prog X.w X.K X.mg X.base k x sp) (hG : X.A.guards = some []) (hr : Room k X.A) (hg : Gl X x)
    (ha : PA X (e :: es) t) (hdb : (x == ("__debug__" : Str)) = false := by decide)
    (he : starEach (e :: es) X.env = (false, eval e X.env) :: starEach es X.env := by rfl)
    (hpl : (backTo pos (starEach es X.env)).any (·.1) = false := by rfl) :
    PE X (.Call (.Name x p) (e :: es) [] pos) (tCall sp [] E0 t) := by
  obtain ⟨f, fd, ps, F, m, kp, b⟩ := c.ex
  exact pe_callG F hG hr hg m kp b .nil pass0 ha hdb he hpl
/-- a module's constant, a whole number -/
def GInt (mg : Str → Option Value) (x : Str) (n : Int) : Prop := ∃ t, mg x = some (.int n t)
theorem pe_gi {n : Int} (hg : Gl X x) (h : GInt X.mg x n) (hd : (x == ("__debug__" : Str)) = false := by decide) : PE X (.Name x pos) (tC (.int n)) := by
  obtain ⟨t, h⟩ := h
  exact pe_glob hg h ⟨t, rfl⟩ hd
/-- a module's constant, a text -/
def GStr (mg : Str → Option Value) (x : Str) (z : Str) : Prop := ∃ t, mg x = some (.str z t)
theorem pe_gs {z : Str} (hg : Gl X x) (h : GStr X.mg x z) (hd : (x == ("__debug__" : Str)) = false := by decide) : PE X (.Name x pos) (tC (.str z)) := by
  obtain ⟨t, h⟩ := h
  exact pe_glob hg h ⟨t, rfl⟩ hd
theorem hu64 {A : Around} (hr : Room k A) : A.units + 64 < cLine := by
  have := hr.un
  omega
/-- x is True, x is False, for any x -/
def isB (x : V) (b : Bool) : Bool := match x with
  | .bl a => a == b
  | _ => false
theorem op_isB : OpR X (compareOp .Is) (fun x y H Q => ∃ b, y = .bl b ∧ Q (.bl (isB x b)) H) := by
  intro pins s σ H x y v u Q I rx ry h
  obtain ⟨b, rfl, q⟩ := h
  cases (show u = Value.bool b from ry)
  cases x with
  | non =>
    cases (show v = Value.none from rx)
    exact wpAny_is_other rfl (fun z => nomatch z) ⟨.bl false, H, I, rfl, q⟩
  | bl a =>
    cases (show v = Value.bool a from rx)
    by_cases e : a = b
    · subst e
      refine wpAny_is_self rfl ⟨.bl true, H, I, rfl, ?_⟩
      simpa [isB] using q
    · refine wpAny_is_other rfl (fun z => e (Value.bool.inj z)) ⟨.bl false, H, I, rfl, ?_⟩
      have e2 : isB (.bl a) b = false := beq_eq_false_iff_ne.mpr e
      rw [e2] at q
      exact q
  | int i =>
    obtain ⟨t, rfl⟩ := (show ∃ t, v = Value.int i t from rx)
    exact wpAny_is_other rfl (fun z => nomatch z) ⟨.bl false, H, I, rfl, q⟩
  | str i =>
    obtain ⟨t, rfl⟩ := (show ∃ t, v = Value.str i t from rx)
    exact wpAny_is_other rfl (fun z => nomatch z) ⟨.bl false, H, I, rfl, q⟩
  | byt i =>
    obtain ⟨t, rfl⟩ := (show ∃ t, v = Value.bytes i t from rx)
    exact wpAny_is_other rfl (fun z => nomatch z) ⟨.bl false, H, I, rfl, q⟩
  | flt i =>
    obtain ⟨t, rfl⟩ := (show ∃ t, v = Value.float i t from rx)
    exact wpAny_is_other rfl (fun z => nomatch z) ⟨.bl false, H, I, rfl, q⟩
  | ref i =>
    cases (show v = Value.ref i from rx)
    exact wpAny_is_other rfl (fun z => nomatch z) ⟨.bl false, H, I, rfl, q⟩
  | ty i =>
    cases (show v = Value.type i from rx)
    exact wpAny_is_other rfl (fun z => nomatch z) ⟨.bl false, H, I, rfl, q⟩
theorem op_isntB : OpR X (compareOp .IsNot) (fun x y H Q => ∃ b, y = .bl b ∧ Q (.bl (!isB x b)) H) := by
  intro pins s σ H x y v u Q I rx ry h
  obtain ⟨b, rfl, q⟩ := h
  cases (show u = Value.bool b from ry)
  cases x with
  | non =>
    cases (show v = Value.none from rx)
    exact wpAny_isNot_other rfl (fun z => nomatch z) ⟨.bl true, H, I, rfl, q⟩
  | bl a =>
    cases (show v = Value.bool a from rx)
    by_cases e : a = b
    · subst e
      refine wpAny_isNot_self rfl ⟨.bl false, H, I, rfl, ?_⟩
      simpa [isB] using q
    · refine wpAny_isNot_other rfl (fun z => e (Value.bool.inj z)) ⟨.bl true, H, I, rfl, ?_⟩
      have e2 : isB (.bl a) b = false := beq_eq_false_iff_ne.mpr e
      rw [e2] at q
      exact q
  | int i =>
    obtain ⟨t, rfl⟩ := (show ∃ t, v = Value.int i t from rx)
    exact wpAny_isNot_other rfl (fun z => nomatch z) ⟨.bl true, H, I, rfl, q⟩
  | str i =>
    obtain ⟨t, rfl⟩ := (show ∃ t, v = Value.str i t from rx)
    exact wpAny_isNot_other rfl (fun z => nomatch z) ⟨.bl true, H, I, rfl, q⟩
  | byt i =>
    obtain ⟨t, rfl⟩ := (show ∃ t, v = Value.bytes i t from rx)
    exact wpAny_isNot_other rfl (fun z => nomatch z) ⟨.bl true, H, I, rfl, q⟩
  | flt i =>
    obtain ⟨t, rfl⟩ := (show ∃ t, v = Value.float i t from rx)
    exact wpAny_isNot_other rfl (fun z => nomatch z) ⟨.bl true, H, I, rfl, q⟩
  | ref i =>
    cases (show v = Value.ref i from rx)
    exact wpAny_isNot_other rfl (fun z => nomatch z) ⟨.bl true, H, I, rfl, q⟩
  | ty i =>
    cases (show v = Value.type i from rx)
    exact wpAny_isNot_other rfl (fun z => nomatch z) ⟨.bl true, H, I, rfl, q⟩
end
/-! names of the built-ins -/
theorem boot_len_ : bootBuiltins "len" = some (.builtin "len") := by decide +kernel
theorem boot_max_ : bootBuiltins "max" = some (.builtin "max") := by decide +kernel
theorem boot_min_ : bootBuiltins "min" = some (.builtin "min") := by decide +kernel
theorem boot_abs_ : bootBuiltins "abs" = some (.builtin "abs") := by decide +kernel
theorem boot_all_ : bootBuiltins "all" = some (.builtin "all") := by decide +kernel
theorem boot_repr_ : bootBuiltins "repr" = some (.builtin "repr") := by decide +kernel
theorem boot_isinstance_ : bootBuiltins "isinstance" = some (.builtin "isinstance") := by decide +kernel
theorem boot_int_ : bootBuiltins "int" = some (.type "int") := by decide +kernel
theorem boot_bool_ : bootBuiltins "bool" = some (.type "bool") := by decide +kernel
theorem boot_str_ : bootBuiltins "str" = some (.type "str") := by decide +kernel
theorem boot_list_ : bootBuiltins "list" = some (.type "list") := by decide +kernel
theorem boot_tuple_ : bootBuiltins "tuple" = some (.type "tuple") := by decide +kernel
theorem boot_dict_ : bootBuiltins "dict" = some (.type "dict") := by decide +kernel

/-! ### the box of a cell: what is drawn of it is any number below the bound -/
def BoxAt (H : Hp) (b : Addr) : Prop := ∃ x y z : Int, 0 ≤ x ∧ 0 ≤ y ∧ y < 2147483629 ∧ H b = some (.lst [.int x, .int y, .int z])
/-- all but the box is kept -/
def Kp (b : Addr) (H H' : Hp) : Prop := ∀ c o, c ≠ b → H c = some o → H' c = some o
theorem Kp.refl {b : Addr} {H : Hp} : Kp b H H := fun _ _ _ z => z
theorem Kp.trans {b : Addr} {H H1 H2 : Hp} (h : Kp b H H1) (k : Kp b H1 H2) : Kp b H H2 := fun c o n z => k c o n (h c o n z)
theorem Kp.upd {b p : Addr} {H H' : Hp} {o : HO} (h : Kp b H H') (n : H' p = none) : Kp b H (upd H' p o) := fun c u hc z => by
  have z2 := h c u hc z
  rw [upd_ne (ne_of_none z2 n)]
  exact z2
theorem BoxAt.upd {b p : Addr} {H : Hp} {o : HO} (h : BoxAt H b) (n : H p = none) : BoxAt (L2.upd H p o) b := by
  obtain ⟨x, y, z, h1, h2, h3, h4⟩ := h
  refine ⟨x, y, z, h1, h2, h3, ?_⟩
  rw [upd_ne (ne_of_none h4 n)]
  exact h4
theorem BoxAt.ne {b p : Addr} {H : Hp} (h : BoxAt H b) (n : H p = none) : p ≠ b := by
  obtain ⟨x, y, z, _, _, _, h4⟩ := h
  exact (ne_of_none h4 n).symm
def spTake : Sp := fun vs H Q _ => ∃ (b : Addr) (m : Int), vs = [.ref b, .int m] ∧ BoxAt H b ∧ 0 < m ∧ m ≤ 1000000000 ∧
  ∀ (d : Int) (H' : Hp), 0 ≤ d → d < m → BoxAt H' b → (∀ c, c ≠ b → H' c = H c) → Q (.int d) H'
def spCell (K : PySem.W.Frag) : Sp := fun vs H Q _ => ∃ (a : Addr) (ns : List Int) (k : Int), vs = [.ref a, .int k] ∧ SqL K H a (ns.map V.int) ∧
  ns.length ≤ 63 ∧ 0 ≤ k ∧ ∀ n : Int, Q (.int n) H
def spBox : Sp := fun vs H Q _ => ∃ n : Int, vs = [.int n] ∧ ∀ (b : Addr) (H' : Hp), H b = none → BoxAt H' b → (∀ c, c ≠ b → H' c = H c) → Q (.ref b) H'
theorem kp_of {b : Addr} {H H' : Hp} (h : ∀ c, c ≠ b → H' c = H c) : Kp b H H' := fun c o n z => by
  rw [h c n]
  exact z
theorem atI_ints {ns : List Int} {k : Int} (h0 : 0 ≤ k) (h1 : k < ns.length) : ∃ n, atI (ns.map V.int) k = some (.int n) := by
  obtain ⟨j, rfl⟩ : ∃ j : Nat, k = j := ⟨k.toNat, by omega⟩
  have hj : j < ns.length := by omega
  refine ⟨ns[j], atI_nat ?_⟩
  rw [List.getElem?_map, List.getElem?_eq_getElem hj]
  rfl
end Gd
namespace Gd
open PySem PySem.Spec PyProof.Rows L2
/-! ### data by its shape -/
/-- all but what N names is kept -/
def Kq (N : Addr → Prop) (H H' : Hp) : Prop := ∀ c o, ¬ N c → H c = some o → H' c = some o
mutual
/-- the value shows the data d, laid in objects that N does not name -/
inductive Da (H : Hp) (N : Addr → Prop) : V → PyData → Prop
  | non : Da H N .non .none
  | bl (b : Bool) : Da H N (.bl b) (.bool b)
  | int (i : Int) : Da H N (.int i) (.int i)
  | str (x : Str) : Da H N (.str x) (.str x)
  | lst {a : Addr} {xs : List V} {ds : List PyData} : ¬ N a → H a = some (.lst xs) → Das H N xs ds → Da H N (.ref a) (.list ds)
  | tup {a : Addr} {xs : List V} {ds : List PyData} : ¬ N a → H a = some (.tup xs) → Das H N xs ds → Da H N (.ref a) (.tuple ds)
inductive Das (H : Hp) (N : Addr → Prop) : List V → List PyData → Prop
  | nil : Das H N [] []
  | cons {v : V} {vs : List V} {d : PyData} {ds : List PyData} : Da H N v d → Das H N vs ds → Das H N (v :: vs) (d :: ds)
end
mutual
theorem Da.kq {H H' : Hp} {N : Addr → Prop} (k : Kq N H H') : ∀ {v : V} {d : PyData}, Da H N v d → Da H' N v d
  | _, _, .non => .non
  | _, _, .bl b => .bl b
  | _, _, .int i => .int i
  | _, _, .str x => .str x
  | _, _, .lst n h s => .lst n (k _ _ n h) (Das.kq k s)
  | _, _, .tup n h s => .tup n (k _ _ n h) (Das.kq k s)
theorem Das.kq {H H' : Hp} {N : Addr → Prop} (k : Kq N H H') : ∀ {vs : List V} {ds : List PyData}, Das H N vs ds → Das H' N vs ds
  | _, _, .nil => .nil
  | _, _, .cons h s => .cons (Da.kq k h) (Das.kq k s)
end
mutual
theorem Da.wk {H : Hp} {N M : Addr → Prop} (k : ∀ a, M a → N a) : ∀ {v : V} {d : PyData}, Da H N v d → Da H M v d
  | _, _, .non => .non
  | _, _, .bl b => .bl b
  | _, _, .int i => .int i
  | _, _, .str x => .str x
  | _, _, .lst n h s => .lst (fun z => n (k _ z)) h (Das.wk k s)
  | _, _, .tup n h s => .tup (fun z => n (k _ z)) h (Das.wk k s)
theorem Das.wk {H : Hp} {N M : Addr → Prop} (k : ∀ a, M a → N a) : ∀ {vs : List V} {ds : List PyData}, Das H N vs ds → Das H M vs ds
  | _, _, .nil => .nil
  | _, _, .cons h s => .cons (Da.wk k h) (Das.wk k s)
end
mutual
theorem Da.dp {K : PySem.W.Frag} {H : Hp} {N : Addr → Prop} : ∀ {v : V} {d : PyData}, Da H N v d → Dp K H v d
  | _, _, .non => .non
  | _, _, .bl b => .bl b
  | _, _, .int i => .int i
  | _, _, .str x => .str x
  | _, _, .lst _ h s => .lst (SqL.of h) (Das.dp s)
  | _, _, .tup _ h s => .tup (SqT.of h) (Das.dp s)
theorem Das.dp {K : PySem.W.Frag} {H : Hp} {N : Addr → Prop} : ∀ {vs : List V} {ds : List PyData}, Das H N vs ds → DpAll K H vs ds
  | _, _, .nil => .nil
  | _, _, .cons h s => .cons (Da.dp h) (Das.dp s)
end
theorem Das.len {H : Hp} {N : Addr → Prop} : ∀ {vs : List V} {ds : List PyData}, Das H N vs ds → vs.length = ds.length
  | _, _, .nil => rfl
  | _, _, .cons _ s => by rw [List.length_cons, List.length_cons, s.len]
theorem Das.get {H : Hp} {N : Addr → Prop} : ∀ {vs : List V} {ds : List PyData} {i : Nat} {v : V}, Das H N vs ds → vs[i]? = some v → ∃ d, ds[i]? = some d ∧ Da H N v d
  | _, _, 0, _, .cons h _, e => ⟨_, rfl, by
      have e2 := Option.some.inj e
      subst e2
      exact h⟩
  | _, _, i + 1, v, .cons _ s, e => s.get (i := i) (v := v) e
  | _, _, i, _, .nil, e => by simp at e
theorem Das.snoc {H : Hp} {N : Addr → Prop} {v : V} {d : PyData} : ∀ {vs : List V} {ds : List PyData}, Das H N vs ds → Da H N v d → Das H N (vs ++ [v]) (ds ++ [d])
  | _, _, .nil, h => .cons h .nil
  | _, _, .cons g s, h => .cons g (s.snoc h)
theorem Das.set {H : Hp} {N : Addr → Prop} {v : V} {d : PyData} : ∀ {vs : List V} {ds : List PyData} {i : Nat}, Das H N vs ds → Da H N v d → Das H N (vs.set i v) (ds.set i d)
  | _, _, _, .nil, _ => .nil
  | _, _, 0, .cons _ s, h => .cons h s
  | _, _, _ + 1, .cons g s, h => .cons g (s.set h)

theorem same_sqT {K : PySem.W.Frag} {H H' : Hp} {a : Addr} {xs : List V} (s : Same H H') (h : SqT K H a xs) : SqT K H' a xs := by
  rcases h with h | h
  · refine .inl ?_
    rcases h with h | ⟨o, h⟩
    · exact .inl (s _ _ h)
    · exact .inr ⟨o, s _ _ h⟩
  · exact .inr h
mutual
theorem dpSame {K : PySem.W.Frag} {H H' : Hp} (s : Same H H') : ∀ {v : V} {d : PyData}, Dp K H v d → Dp K H' v d
  | _, _, .non => .non
  | _, _, .bl b => .bl b
  | _, _, .int i => .int i
  | _, _, .str x => .str x
  | _, _, .lst h r => .lst (s.seq h) (dpSames s r)
  | _, _, .tup h r => .tup (same_sqT s h) (dpSames s r)
theorem dpSames {K : PySem.W.Frag} {H H' : Hp} (s : Same H H') : ∀ {vs : List V} {ds : List PyData}, DpAll K H vs ds → DpAll K H' vs ds
  | _, _, .nil => .nil
  | _, _, .cons h r => .cons (dpSame s h) (dpSames s r)
end
theorem dpLen {K : PySem.W.Frag} {H : Hp} : ∀ {vs : List V} {ds : List PyData}, DpAll K H vs ds → vs.length = ds.length
  | _, _, .nil => rfl
  | _, _, .cons _ s => by rw [List.length_cons, List.length_cons, dpLen s]
theorem dpGet {K : PySem.W.Frag} {H : Hp} : ∀ {vs : List V} {ds : List PyData} {i : Nat} {v : V}, DpAll K H vs ds → vs[i]? = some v → ∃ d, ds[i]? = some d ∧ Dp K H v d
  | _, _, 0, _, .cons h _, e => ⟨_, rfl, by
      have e2 := Option.some.inj e
      subst e2
      exact h⟩
  | _, _, i + 1, v, .cons _ s, e => dpGet (i := i) (v := v) s e
  | _, _, i, _, .nil, e => by simp at e
theorem d1Same {K : PySem.W.Frag} {H H' : Hp} (s : Same H H') {v : V} {d : PyData} (h : D1 K H v d) : D1 K H' v d := by
  cases h with
  | dp h => exact .dp (dpSame s h)
  | emp h => exact .emp (s _ _ h)
/-! ### the class of data -/
def tyN : PyData → String
  | .none => "NoneType"
  | .bool _ => "bool"
  | .int _ => "int"
  | .str _ => "str"
  | .list _ => "list"
  | .tuple _ => "tuple"
  | .dict _ => "dict"
def isIntD : PyData → Bool
  | .bool _ => true
  | .int _ => true
  | _ => false
def isBoolD : PyData → Bool
  | .bool _ => true
  | _ => false
def isStrD : PyData → Bool
  | .str _ => true
  | _ => false
def isTupD : PyData → Bool
  | .tuple _ => true
  | _ => false
def isSeqD : PyData → Bool
  | .list _ => true
  | .tuple _ => true
  | _ => false
theorem tyL {K : PySem.W.Frag} {H : Hp} {a : Addr} {xs : List V} (h : SqL K H a xs) : TyX K H (.ref a) (.type "list") := by
  rcases h with h | ⟨o, _, _, h, hc, _⟩
  · rcases h with h | ⟨o, h⟩
    · exact .base (.lst h)
    · exact .base (.frz h)
  · exact .kList h hc
theorem tyT {K : PySem.W.Frag} {H : Hp} {a : Addr} {xs : List V} (h : SqT K H a xs) : TyX K H (.ref a) (.type "tuple") := by
  rcases h with h | ⟨o, _, _, h, hc, _⟩
  · rcases h with h | ⟨o, h⟩
    · exact .base (.tup h)
    · exact .fTuple h
  · exact .kTuple h hc
theorem tyD {K : PySem.W.Frag} {H : Hp} {v : V} {d : PyData} (h : D1 K H v d) : TyX K H v (.type (tyN d)) := by
  cases h with
  | dp h =>
    cases h with
    | non => exact .base .non
    | bl b => exact .base (.bl b)
    | int i => exact .base (.int i)
    | str x => exact .base (.str x)
    | lst h _ => exact tyL h
    | tup h _ => exact tyT h
  | emp h => exact .base (.dK h)
theorem kInt {K : PySem.W.Frag} (d : PyData) : PySem.W.kitOne K (.type (tyN d)) (.type "int") = some (isIntD d) := by
  cases d
  all_goals exact kit_ty (by simp only [tyN, isIntD]; decide +kernel)
theorem kBool {K : PySem.W.Frag} (d : PyData) : PySem.W.kitOne K (.type (tyN d)) (.type "bool") = some (isBoolD d) := by
  cases d
  all_goals exact kit_ty (by simp only [tyN, isBoolD]; decide +kernel)
theorem kStr {K : PySem.W.Frag} (d : PyData) : PySem.W.kitOne K (.type (tyN d)) (.type "str") = some (isStrD d) := by
  cases d
  all_goals exact kit_ty (by simp only [tyN, isStrD]; decide +kernel)
theorem kTup {K : PySem.W.Frag} (d : PyData) : PySem.W.kitOne K (.type (tyN d)) (.type "tuple") = some (isTupD d) := by
  cases d
  all_goals exact kit_ty (by simp only [tyN, isTupD]; decide +kernel)
theorem kLst {K : PySem.W.Frag} (d : PyData) : PySem.W.kitOne K (.type (tyN d)) (.type "list") = some (isSeqD d && !isTupD d) := by
  cases d
  all_goals exact kit_ty (by simp only [tyN, isSeqD, isTupD]; decide +kernel)
theorem kSeq {K : PySem.W.Frag} (d : PyData) : PySem.W.kitAny K (.type (tyN d)) [.type "list", .type "tuple"] = some (isSeqD d) := by
  refine kitAny_cons (kLst d) (fun z => kitAny_cons (kTup d) (fun y => ?_) fun y => ?_) fun z => ?_
  · have e : isSeqD d = false := by
      cases d
      all_goals simp_all [isSeqD, isTupD]
    rw [e]
    exact kitAny_nil
  · cases d
    all_goals simp_all [isSeqD, isTupD]
  · cases d
    all_goals simp_all [isSeqD, isTupD]
theorem clsSeq : Paired ClsV [.ty "list", .ty "tuple"] [.type "list", .type "tuple"] := .cons (.ty _) (.cons (.ty _) .nil)
/-! ### how long it is when shown -/
def Big (n : Int) : Prop := -(10 ^ 40) ≤ n ∧ n ≤ 10 ^ 40
theorem big_log {n : Int} (h : Big n) : n.natAbs.log2 < 1920 := by
  have h0 : n.natAbs < 2 ^ 1920 := by
    have h1 : n.natAbs ≤ 10 ^ 40 := by
      obtain ⟨h1, h2⟩ := h
      omega
    exact Nat.lt_of_le_of_lt h1 (by decide +kernel)
  by_cases z : n.natAbs = 0
  · rw [z]
    decide +kernel
  · exact (Nat.log2_lt z).mpr h0
/-- it may be shown, in so many signs, so deep -/
structure Okd (d : PyData) (m e : Nat) : Prop where
  sh : d.showable = true
  ln : d.shown.length ≤ m
  dp : d.depth ≤ e
theorem Okd.up {d : PyData} {m e m' e' : Nat} (h : Okd d m e) (h1 : m ≤ m') (h2 : e ≤ e') : Okd d m' e' := ⟨h.sh, Nat.le_trans h.ln h1, Nat.le_trans h.dp h2⟩
theorem okNone : Okd .none 5 0 := ⟨by simp only [PyData.showable], by simp only [PyData.shown]; decide +kernel, by simp only [PyData.depth]; decide⟩
theorem okBool (b : Bool) : Okd (.bool b) 5 0 := by
  refine ⟨by simp only [PyData.showable], ?_, by simp only [PyData.depth]; decide⟩
  cases b
  · simp only [PyData.shown]
    decide +kernel
  · simp only [PyData.shown]
    decide +kernel
theorem okInt {n : Int} (h : Big n) : Okd (.int n) 50 0 := by
  refine ⟨?_, ?_, by simp only [PyData.depth]; decide⟩
  · simp only [PyData.showable, decide_eq_true_eq]
    exact big_log h
  · simp only [PyData.shown]
    rw [PySem.ofString_length]
    have h1 : n.natAbs < 10 ^ 41 := by
      have h1 : n.natAbs ≤ 10 ^ 40 := by
        obtain ⟨h1, h2⟩ := h
        omega
      exact Nat.lt_of_le_of_lt h1 (by decide +kernel)
    exact Nat.le_trans (int_text_length_le10 (k := 41) (by decide) h1) (by decide)
theorem okStr {x : Str} {m : Nat} (h : (reprText x).length ≤ m) : Okd (.str x) m 0 :=
  ⟨by simp only [PyData.showable], by simp only [PyData.shown]; exact h, by simp only [PyData.depth]; decide⟩
theorem okEmp : Okd (.dict []) 5 1 := by
  refine ⟨by simp only [PyData.showable, PyData.showableKv], ?_, by simp only [PyData.depth, PyData.depthKv]; decide⟩
  simp only [PyData.shown, PyData.shownKv]
  decide +kernel
theorem sum_le {m : Nat} : ∀ ts : List Str, (∀ t ∈ ts, t.length ≤ m) → (ts.map (·.length)).sum ≤ m * ts.length
  | [], _ => by simp
  | t :: r, h => by
    have h1 := h t List.mem_cons_self
    have h2 := sum_le r fun x hx => h x (List.mem_cons_of_mem _ hx)
    rw [List.map_cons, List.sum_cons, List.length_cons, Nat.mul_succ]
    show t.length + _ ≤ _
    omega
theorem oks {m e : Nat} : ∀ {ds : List PyData}, (∀ d ∈ ds, Okd d m e) → PyData.showableAll ds = true ∧ (∀ t ∈ PyData.shownAll ds, t.length ≤ m) ∧ PyData.depthAll ds ≤ e ∧ (PyData.shownAll ds).length = ds.length
  | [], _ => ⟨by simp only [PyData.showableAll], by simp [PyData.shownAll], by simp only [PyData.depthAll]; exact Nat.zero_le _, by simp only [PyData.shownAll]; rfl⟩
  | d :: r, h => by
    have a := h d List.mem_cons_self
    obtain ⟨b1, b2, b3, b4⟩ := oks fun x hx => h x (List.mem_cons_of_mem _ hx)
    refine ⟨by simp only [PyData.showableAll, a.sh, b1, Bool.and_self], ?_, ?_, by simp only [PyData.shownAll, List.length_cons, b4]⟩
    · intro t ht
      simp only [PyData.shownAll, List.mem_cons] at ht
      rcases ht with rfl | ht
      · exact a.ln
      · exact b2 t ht
    · have := a.dp
      simp only [PyData.depthAll]
      omega
theorem okList {ds : List PyData} {m e n : Nat} (h : ∀ d ∈ ds, Okd d m e) (l : ds.length ≤ n) : Okd (.list ds) (m * n + 2 * n + 3) (e + 1) := by
  obtain ⟨b1, b2, b3, b4⟩ := oks h
  refine ⟨by simp only [PyData.showable, b1], ?_, by simp only [PyData.depth]; omega⟩
  simp only [PyData.shown]
  have h1 := listText_len_le (PyData.shownAll ds)
  have h2 := sum_le _ b2
  rw [b4] at h1 h2
  have h3 : m * ds.length ≤ m * n := Nat.mul_le_mul_left m l
  omega
theorem okTuple {ds : List PyData} {m e n : Nat} (h : ∀ d ∈ ds, Okd d m e) (l : ds.length ≤ n) : Okd (.tuple ds) (m * n + 2 * n + 3) (e + 1) := by
  obtain ⟨b1, b2, b3, b4⟩ := oks h
  refine ⟨by simp only [PyData.showable, b1], ?_, by simp only [PyData.depth]; omega⟩
  simp only [PyData.shown]
  have h1 := tupleText_len_le (PyData.shownAll ds)
  have h2 := sum_le _ b2
  rw [b4] at h1 h2
  have h3 : m * ds.length ≤ m * n := Nat.mul_le_mul_left m l
  omega
theorem line_le {n : Nat} (h : n ≤ 1000000) : n ≤ sizeLine := Nat.le_trans h (by decide)
theorem bLn (B : Bool) : (PyData.bool B).shown.length ≤ sizeLine := Nat.le_trans (okBool B).ln (by decide)
theorem bDp (B : Bool) : (PyData.bool B).depth ≤ 60 := Nat.le_trans (okBool B).dp (by decide)
theorem ifSame {x : V} {A B : Prop} (h : B) : if (!decide (x = x)) = true then A else B := by
  rw [decide_eq_true rfl]
  exact h
/-! ### heaps and picks -/
theorem same_new {H : Hp} {p : Addr} {o : HO} (h : H p = none) : Same H (upd H p o) := fun b x e => by
  rw [upd_ne (ne_of_none e h)]
  exact e
theorem kep {H : Hp} {p q : Addr} {o u : HO} (h : H p = some o) (n : H q = none) : (upd H q u) p = some o := by
  rw [upd_ne (ne_of_none h n)]
  exact h
theorem upd_none {H : Hp} {p q : Addr} {o : HO} (h : upd H p o q = none) : H q = none := by
  unfold upd at h
  split at h
  · cases h
  · exact h
theorem pickL (xs : List V) {k : Int} (h0 : 0 ≤ k) (h1 : k < xs.length) : ∃ v, v ∈ xs ∧ atI xs k = some v := by
  obtain ⟨j, rfl⟩ : ∃ j : Nat, k = j := ⟨k.toNat, by omega⟩
  have hj : j < xs.length := by omega
  exact ⟨xs[j], List.getElem_mem hj, atI_nat (List.getElem?_eq_getElem hj)⟩
theorem pickK (xs : List V) {k : Int} (h0 : 0 ≤ k) (h1 : k < xs.length) : ∃ v, xs[k.toNat]? = some v ∧ atI xs k = some v := by
  obtain ⟨j, rfl⟩ : ∃ j : Nat, k = j := ⟨k.toNat, by omega⟩
  have hj : j < xs.length := by omega
  exact ⟨xs[j], List.getElem?_eq_getElem hj, atI_nat (List.getElem?_eq_getElem hj)⟩
theorem boxAway {H : Hp} {b D : Addr} {o : HO} (h : BoxAt H b) (n : D ≠ b) : BoxAt (upd H D o) b := by
  obtain ⟨x, y, z, h1, h2, h3, h4⟩ := h
  refine ⟨x, y, z, h1, h2, h3, ?_⟩
  rw [upd_ne n.symm]
  exact h4
theorem boxSame {b : Addr} {H H' : Hp} (h : BoxAt H b) (s : Same H H') : BoxAt H' b := by
  obtain ⟨x, y, z, h1, h2, h3, h4⟩ := h
  exact ⟨x, y, z, h1, h2, h3, s _ _ h4⟩
theorem same_kp {b : Addr} {H H' : Hp} (s : Same H H') : Kp b H H' := fun c o _ z => s c o z
theorem same_keep {H H' H'' : Hp} {b : Addr} (s : Same H H') (n : H' b = none) (k : ∀ c o, c ≠ b → H' c = some o → H'' c = some o) : Same H H'' := fun c o z =>
  k c o (ne_of_none (s c o z) n) (s c o z)
/-- new in H, where the box is b -/
def Nw (H : Hp) (b : Addr) : Addr → Prop := fun c => c = b ∨ ∃ o, H c = some o
theorem nw_of {H H' : Hp} {b p : Addr} (k : Kp b H H') (n : H' p = none) (hb : p ≠ b) : ¬ Nw H b p := by
  rintro (h | ⟨o, h⟩)
  · exact hb h
  · rw [k p o hb h] at n
    cases n
theorem Kp.kq {b : Addr} {H H' : Hp} {N : Addr → Prop} (k : Kp b H H') (n : N b) : Kq N H H' := fun c o hc z => k c o (fun e => hc (e ▸ n)) z
theorem defAt {K : PySem.W.Frag} {mg : Str → Option Value} {x : Str} {st : Stmt} {ps : List Str} {f : Addr} {oc : Value} {od an : Option Addr} {osl : Array (Option Value)} {kV doc pm cdv ct : Value}
    (m : mg x = some (.ref f))
    (l : K.lookup f = some ⟨oc, od, .func (PySem.W.fnOf x x (defArgs st) (defBody st) (defScope st) .none kV doc pm an cdv ct), osl⟩)
    (c : PySem.W.codeIn K cdv x = true) (k : PySem.W.keepIn K (.ref f) = true)
    (b : ∀ (kV doc pm : Value) (an : Option Addr) (cdv ct : Value) (us : List Value), us.length = ps.length →
      bindArgs (PySem.W.fnOf x x (defArgs st) (defBody st) (defScope st) .none kV doc pm an cdv ct) ⟨us, []⟩ = pure (ps.zip us)) :
    DefAt K mg x st ps := by
  have F := fun_mk (st := st) l c k
  exact ⟨f, _, F, m, F.binds b⟩
end Gd
/-! An own error whose __init__ says super().__init__(a text), then keeps the one thing it is made of. -/
namespace Ge
open PySem PySem.W PySem.Calls PyProof.Rows PySem.HandSPX
def iA (p1 p2 : Pos) : Arguments := { posonlyargs := [], args := [{ arg := "self", annotation := none, pos := p1 }, { arg := "found", annotation := none, pos := p2 }], vararg := none, kwonlyargs := [], kw_defaults := [], kwarg := none, defaults := [] }
def iB (msg : Str) (kk : Nat) (p1 p2 p3 p4 p5 p6 q1 q2 q3 q4 : Pos) : List Stmt :=
  [.Expr (.Call (.Attribute (.Call (.Name "super" p1) [] [] p2) "__init__" p3) [.Constant (.str msg) kk p4] [] p5) p6,
   .Assign [.Attribute (.Name "self" q1) "found" q2] (.Name "found" q3) q4]
def iS : Scope := { kind := .function, names := [(PySem.Str.ofString "self", .local), (PySem.Str.ofString "found", .local), (PySem.Str.ofString "__class__", .free), (PySem.Str.ofString "super", .globalImplicit)], isGenerator := false, isCoroutine := false, more := [] }
/-- what the written part says of the class at C and of its __init__ at fI -/
structure ErrTxt (P : Program) (K : Frag) (C fI : Addr) (qn msg : Str) : Prop where
  cls : ∃ nm q N bs bm sn sub ab col dd k0 k1 k2 k3 k5, K.lookup C = some (excClassObj nm q C N bs bm true sn sub ab col dd k0 k1 k2 k3 k5 "ValueError.__new__") ∧ refsVE bm = true
  sa : findIn K (.ref C) "__setattr__" = some (some (.builtin "object.__setattr__"))
  ga : findIn K (.ref C) "__getattribute__" = some (some (.builtin "BaseException.__getattribute__"))
  gg : findIn K (.ref C) "__getattr__" = some none
  noN : findIn K (.ref C) "found" = some none
  iC : findIn K (.ref C) "__init__" = some (some (.ref fI))
  tC : typeIn K (.ref fI) = some (.type "function")
  kC : keepIn K (.ref C) = true
  exC : subIn K (.ref C) (.type "BaseException") = some true
  veC : subIn K (.ref C) (.type "ValueError") = some true
  tyC : typeIn K (.ref C) = some (.type "type")
  hdC : hasDictIn K C = true
  sub : mroIn K C (.ref C) = some true
  sup : ks_superIn K C C "__init__" = some (some (.builtin "ValueError.__init__"))
  op : nsIn K cStatics "thirdparty.any" = some none
  zs : nsIn K mainGlobals "super" = some none
  htop : (P.main.scope.names.lookup ("super" : Str)).isSome = false
  fn : ∃ (oc : Value) (od : Option Addr) (doc pm : Value) (an : Option Addr) (cda cc : Addr) (ct : Value) (osl : Array (Option Value)) (kk : Nat) (p1 p2 p3 p4 p5 p6 q1 q2 q3 q4 r1 r2 : Pos) (ccl cl : Value) (cdd cld : Option Addr) (vs : Array Value) (ccs csl : Array (Option Value)) (file : Str) (tf : Tok),
    K.lookup fI = some ⟨oc, od, .func (ksFn "__init__" qn (iA r1 r2) (iB msg kk p1 p2 p3 p4 p5 p6 q1 q2 q3 q4) iS .none .none doc pm an (.ref cda) ct cc), osl⟩ ∧ codeIn K (.ref cda) qn = true ∧
    K.lookup cda = some ⟨ccl, cdd, .fields vs, ccs⟩ ∧ vs[2]? = some (.str file tf) ∧ ((P.main.file : Str) == file) = true ∧
    K.lookup cc = some ⟨cl, cld, .cell (some (.ref C)), csl⟩ ∧ (p3.endLine == p5.line) = true
/-- what __init__ leaves of a fresh exception at x -/
structure InitEnd (h h' : Heap) (x C dx t1 : Addr) (v : Value) : Prop where
  keep : ∀ b o, b ≠ x → h.get? b = some o → h'.get? b = some o
  obj : h'.get? x = some { cls := .ref C, dict := some dx, data := .fields #[.ref t1, .none, .none, .none, .bool false, .none] }
  dbig : h.objs.size ≤ dx
  dne : dx ≠ x
  ns : h'.Ns1 dx (fun y => if y = "found" then some v else none)
theorem iS_nocell : ∀ y ∈ iS.names, y.2 ≠ .cell := by decide +kernel
theorem iS_loc (x v : Value) : ∀ y ∈ ([(PySem.Str.ofString "self", x), (PySem.Str.ofString "found", v)] : List (Str × Value)), iS.names.lookup y.1 = some .local := by
  intro y hy
  simp only [List.mem_cons, List.not_mem_nil, or_false] at hy
  rcases hy with rfl | rfl
  · exact (by decide +kernel : iS.names.lookup (PySem.Str.ofString "self") = some .local)
  · exact (by decide +kernel : iS.names.lookup (PySem.Str.ofString "found") = some .local)
/-- o.name(..) in a body that is known to run, the call's line told -/
theorem at_method {M : Model} {A : Around} {c : Code} {E : Value → Shared → Prop} {s : Shared} {env : Env} {o : Expr} {name : Str} {apos pos : Pos} {args : List Expr} {Q : Value → Shared → Prop}
    (hl : (apos.endLine == pos.line) = true) (hf : methodCallForm (args.length + ([] : List Keyword).length) (backTo pos (starEach args env)) (backToKw pos (keywordEach [] env)) = true)
    (h : _root_.PySem.wpAt M A c (attributeBase o name env (eval o env)) (fun ov s₁ => wpAny M A (getMethod ov name (do return (← importBound o env).getD true))
      (fun fx s₂ => wpAny M A (callWith pos fx.1 fx.2 (backTo pos (starEach args env)) (backToKw pos (keywordEach [] env))) Q E s₂) E s₁) E s) :
    _root_.PySem.wpAt M A c (eval (.Call (.Attribute o name apos) args [] pos) env) Q E s := by
  rw [arm_eval_Call]
  apply _root_.PySem.wpAt_bind
  apply _root_.PySem.wpAt_mono h
  · intro ov s₁ h₁
    apply _root_.PySem.wpAt_of_wpAny
    apply wpAny_bind
    apply wpAny_standAt
    have hp : methodCallPos true o env apos pos = pure pos := by
      unfold methodCallPos
      simp [hl]
    unfold methodCall
    rw [hf]
    apply wpAny_bind
    apply wpAny_holding
    apply wpAny_mono h₁
    · intro fx s₂ h₂
      exact wpAny_bind (wpAny_of_eq hp h₂)
    · intro _ _ z
      exact z
  · intro _ _ z
    exact z
section
variable {prog : Program} {w : World} {A : Around} {E : Value → Shared → Prop} {R : Result → Shared → Prop} {s : Shared} {K : Frag} {mg mb : Str → Option Value} {C fI : Addr} {qn msg : Str}
theorem sup_call {h : Heap} {g : Array GenState} {d : Drawn} {t : Nat} {os : OsState} {u e t0 : Addr} {one : Value} {Q : Value → Shared → Prop}
    {nm q : Str} {N : Addr} {bs bm sub : List Value} {sn : List Str} {ab : Bool} {col : Option Bool} {dd : Option Addr} {k0 k1 k2 k3 k5 : Option Value}
    (hC : h.get? C = some (excClassObj nm q C N bs bm true sn sub ab col dd k0 k1 k2 k3 k5 "ValueError.__new__")) (he : h.get? e = some (excO C t0)) (hu : h.get? u = some (kxs_mw "ValueError.__init__" e))
    (hq : ∀ h' t1, (∀ b o, b ≠ e → h.get? b = some o → h'.get? b = some o) → h'.get? e = some (excO C t1) → Q .none ⟨h', g, d, t, os⟩) :
    wpAny (model prog w) A (call (.ref u) [one]) Q E ⟨h, g, d, t, os⟩ := by
  refine wpAny_call (codeAny_of_tree (show wpAny _ (Around.in1 _) (callAny (.ref u) ⟨[one], []⟩) _ _ _ from ?_))
  have e1 : (Value.type "method-wrapper" == Value.type "method" || Value.type "method-wrapper" == Value.type "builtin_function_or_method" || Value.type "method-wrapper" == Value.type "method-wrapper") = true := by decide
  simp only [callAny]
  refine wpAny_bind (m := load u) (wpAny_load hu ?_)
  simp only [kxs_mw, e1, if_true]
  refine (KFB.if_so (by decide) (wpAny_bind (check_bound_init F.excBase_ValueError.toExcCallFacts hC he rfl ?_)))
  refine (wpAny_bind (wpAny_pure (wpAny_pure (And.intro (plainId_quiet F.excBase_ValueError.init.plain _) (codeAny_builtin F.excBase_ValueError.initEntry ?_)))))
  have lz : [one].length ≤ sizeLine := by
    rw [sizeLine_eq]
    exact (by decide : 1 ≤ 16777216)
  exact exc_init_tree (cls := .ref C) (t0 := t0) (dv := none) (c2 := .none) (c3 := .none) (b4 := .bool false) he lz (fun h₄ k₄ hx₄ _ => hq h₄ _ k₄ hx₄)
theorem err_init (T : ErrTxt prog K C fI qn msg) {x t0 : Addr} {v : Value} (X : K.In s.heap) (lim : s.heap.NoLimit) (gl : s.heap.Ns mainGlobals mg) (bl : s.heap.Ns builtinsNs mb)
    (bb : ∀ x : Str, x ≠ "__name__" → mb x = bootBuiltins x) (hx : s.heap.get? x = some (excO C t0)) (hnx : K.lookup x = none) (room : A.depth < recursionLimit)
    (hq : ∀ h' tk dx t1, InitEnd s.heap h' x C dx t1 v → R (.ok (.ret .none)) { s with heap := h', toks := tk }) :
    codeAny (model prog w) A (.call (.ref fI) ⟨[.ref x, v], []⟩) R s := by
  obtain ⟨oc, od, doc, pm, an, cda, cc, ct, osl, kk, p1, p2, p3, p4, p5, p6, q1, q2, q3, q4, r1, r2, ccl, cl, cdd, cld, vs, ccs, csl, file, tf, ho, hcd, hcode, hvs, hfile, hcell, hline⟩ := T.fn
  obtain ⟨nm, q, N, bs, bm, sn, sub, ab, col, dd, k0, k1, k2, k3, k5, hC, hbm⟩ := T.cls
  have hzs := mg_none_of X gl T.zs
  obtain ⟨hp, g, dr, tk, os⟩ := s
  refine ks_codeAny_call_defAt (binds := [("self", .ref x), ("found", v)]) room (X _ _ ho) rfl lim (codeRec_of X hcd) rfl (BindsTo.of_eq (by first | rfl | with_unfolding_all rfl)) iS_nocell (iS_loc _ _) (fun h₁ hns k₁ => ?_) rfl rfl rfl
  have X₁ : K.In h₁ := X.keeps k₁
  have hx₁ := k₁ _ _ hx
  refine ks_wpAt_execs_cons (ks_wpAt_Expr_any (at_method hline (by first | rfl | with_unfolding_all rfl) ?_))
  refine ks_wpAt_super_base rfl rfl (by decide) rfl (X₁ _ _ ho) rfl rfl rfl (X₁ _ _ hcode) rfl hvs hfile T.htop ?_
  refine ks_loadName_global rfl rfl (loadGlobal_builtin (gl.keeps k₁) hzs (bl.keeps k₁) ((bb _ (by decide +kernel)).trans (by decide +kernel : bootBuiltins "super" = some (.type "super"))) ⟨rfl, ?_⟩)
  refine wpAny_loadName_free rfl rfl rfl ⟨_, X₁ _ _ hcell, rfl⟩ ?_
  refine wpAny_loadName_local rfl rfl hns (v := .ref x) (by first | rfl | with_unfolding_all rfl) ?_
  refine ks_wpAny_isType_cls (X₁ _ _ hC) rfl ⟨rfl, ?_⟩
  refine ks_wpAny_call_super (X₁ _ _ hC) rfl hx₁ rfl (fun c e => nomatch e) (looks_mroIn X₁ T.sub) (fun h₂ e₂ k₂ => ?_)
  have X₂ : K.In h₂ := X₁.keeps k₂
  have hx₂ := k₂ _ _ hx₁
  have I₂ : InstAt h₂ x (excO C t0) C none := ⟨hx₂, rfl, rfl, trivial⟩
  have hcl : clsIn K C = some { name := nm, bases := bs, mro := .ref C :: bm, ns := N, qualname := q, hasDict := true, slotNames := sn, subclasses := sub, abstract := ab, collection := col, hasDel := false } := by
    unfold clsIn
    rw [hC]
    all_goals rfl
  have hm := T.sup
  unfold ks_superIn at hm
  rw [hcl] at hm
  have hI : Looks (model prog w) h₂ (isInstance (.ref x) (.type "ValueError")) true := I₂.type.andThen (looks_subIn X₂ T.veC)
  have hxC : x ≠ C := fun z => by
    rw [z, hC] at hnx
    cases hnx
  refine kxs_getMethod kxs_ValueError e₂ (looks_opaque X₂ T.op) (l₀ := .ref C :: bm) ?_ rfl X₂ hm hI hxC (by decide +kernel) ?_
  · exact fun A Q E s k q => wpAny_bind ((looks_clsIn X₂ hcl) A _ E s k (wpAny_pure q))
  have hu : (h₂.push (kxs_mw "ValueError.__init__" x)).get? h₂.objs.size = some (kxs_mw "ValueError.__init__" x) := Heap.get?_push_at rfl rfl
  have k₃ : ∀ b o, h₂.get? b = some o → (h₂.push (kxs_mw "ValueError.__init__" x)).get? b = some o := fun b o e => Heap.get?_push_of_some _ e
  have X₃ : K.In (h₂.push (kxs_mw "ValueError.__init__" x)) := X₂.keeps k₃
  have hx₃ := k₃ _ _ hx₂
  refine kxs_callWith (i := "ValueError.__init__") (x := x) (by rfl) (evalArgs_plain ?_)
  refine Calls.spliced_cons (Calls.Constant_str (k := kk) (pos := p4) ?_)
  refine Calls.spliced_nil ⟨hu, ?_⟩
  refine sup_call (X₃ _ _ hC) hx₃ hu (fun h₄ t1 k₄ hx₄ => ?_)
  -- self.found = found
  have X₄ : K.In h₄ := fun a o e => k₄ a o (fun z => by rw [z, hnx] at e; cases e) (X₃ a o e)
  have hLx : hp.objs.size ≠ x := Nat.ne_of_gt (Heap.lt_size hx)
  have hn₄ := hns
  obtain ⟨oL, es, ep, eL, rL⟩ := hn₄
  have hn₄ : h₄.Ns hp.objs.size _ := ⟨oL, es, ep, k₄ _ _ hLx (k₃ _ _ (k₂ _ _ eL)), rL⟩
  have big : hp.objs.size < h₄.objs.size := hn₄.lt
  show _root_.PySem.wpAt _ _ _ (execs _ _) _ _ _
  refine _root_.PySem.wpAt_of_wpAny (wpAny_execs_cons (plainObj_wpAny_Assign_Attribute ?_))
  refine wpAny_Name (wpAny_loadName_local rfl rfl hn₄ (v := v) (by first | rfl | with_unfolding_all rfl) ?_) (by decide)
  refine wpAny_Name (wpAny_loadName_local rfl rfl hn₄ (v := .ref x) (by first | rfl | with_unfolding_all rfl) ?_) (by decide)
  refine set_plain X₄ (ox := excO C t1) (od := none) ⟨hx₄, rfl, rfl, trivial⟩ T.sa ?_
  refine HandSPX.exc_osa X₄ hx₄ hcl (show refsVE (.ref C :: bm) = true from hbm) rfl T.noN (fun h₅ tk₅ dx k₅ dn dne hx₅ hn₅ => ?_)
  show wpAny _ _ (execs _ _) _ _ _
  exact wpAny_execs_nil (hq h₅ tk₅ dx t1 ⟨fun b o hb e => k₅ b o hb (k₄ b o hb (k₃ b o (k₂ b o (k₁ b o e)))), hx₅, Nat.le_trans (Nat.le_of_lt big) dn, dne, hn₅⟩)
/-- an error that was made: its own dict d holds the thing -/
structure OwnMade (h h' : Heap) (e C d : Addr) (v : Value) : Prop where
  keep : ∀ b o, h.get? b = some o → h'.get? b = some o
  new : h.objs.size ≤ e
  obj : ∃ oe vs, h'.get? e = some oe ∧ oe.cls = .ref C ∧ oe.dict = some d ∧ oe.data = .fields vs ∧ vs[1]? = some .none
  dbig : h.objs.size ≤ d
  dne : d ≠ e
  ns : h'.Ns1 d (fun y => if y = "found" then some v else none)
theorem one_size (v : Value) : [v].length ≤ sizeLine := by
  rw [sizeLine_eq]
  exact (by decide : 1 ≤ 16777216)
theorem err_made (T : ErrTxt prog K C fI qn msg) {v : Value} (X : K.In s.heap) (lim : s.heap.NoLimit) (gl : s.heap.Ns mainGlobals mg) (bl : s.heap.Ns builtinsNs mb)
    (bb : ∀ x : Str, x ≠ "__name__" → mb x = bootBuiltins x) (room : A.depth + 1 < recursionLimit)
    (hq : ∀ h' tk e d, OwnMade s.heap h' e C d v → R (.ok (.ret (.ref e))) { s with heap := h', toks := tk }) :
    codeAny (model prog w) A (.call (.ref C) ⟨[v], []⟩) R s := by
  obtain ⟨nm, q, N, bs, bm, sn, sub, ab, col, dd, k0, k1, k2, k3, k5, hC, hbm⟩ := T.cls
  obtain ⟨hp, g, dr, tk, os⟩ := s
  have k : ∀ b o, hp.get? b = some o → ((hp.push (kdv_tup [v])).push (excO C hp.objs.size)).get? b = some o := fun b o e => Heap.get?_push_of_some _ (Heap.get?_push_of_some _ e)
  have hget : ((hp.push (kdv_tup [v])).push (excO C hp.objs.size)).get? (hp.objs.size + 1) = some (excO C hp.objs.size) := by heap_get
  have hnx : K.lookup (hp.objs.size + 1) = none := by
    cases e : K.lookup (hp.objs.size + 1) with
    | none => rfl
    | some o =>
      have z : hp.get? (hp.objs.size + 1) = some o := X _ _ e
      exact absurd (Nat.lt_of_succ_lt (Heap.lt_size z)) (Nat.lt_irrefl _)
  refine HandSPX.call_own F.excBase_ValueError (fun X => refsVE_contains X bm hbm) (X _ _ hC) (looks_findIn X T.iC) (fun self => bind_fn X self T.tC) (one_size v) ?_
  refine err_init (s := ⟨(hp.push (kdv_tup [v])).push (excO C hp.objs.size), g, dr, tk, os⟩) T (X.keeps k) (lim.keeps k) (gl.keeps k) (bl.keeps k) bb hget hnx ?_ fun h' tk' dx t1 ⟨k', hx, dn, dne, hns⟩ => ?_
  · show A.depth + 1 < recursionLimit
    exact room
  · have old : ∀ b o, hp.get? b = some o → h'.get? b = some o := fun b o e => k' b o (Nat.ne_of_lt (Nat.lt_succ_of_lt (Heap.lt_size e))) (k b o e)
    have z : hp.objs.size + 1 + 1 ≤ dx := by
      first
        | (simpa only [Heap.size_push] using dn)
        | exact dn
        | (have q := dn; rw [Heap.size_push, Heap.size_push] at q; exact q)
    exact ⟨rfl, hq h' tk' (hp.objs.size + 1) dx ⟨old, Nat.le_succ _, ⟨_, _, hx, rfl, rfl, rfl, rfl⟩, Nat.le_trans (Nat.le_trans (Nat.le_succ _) (Nat.le_succ _)) z, dne, hns⟩⟩
end
end Ge
namespace Ge
open PySem PySem.Spec PyProof.Rows L2
theorem relO_f {v : V} {v' : Value} (r : RelV v v') (f : Str) : RelO (List.lookup f [(("found" : Str), v)]) (if f = "found" then some v' else none) := by
  by_cases hw : f = "found"
  · subst hw
    rw [if_pos rfl]
    have q : List.lookup ("found" : Str) [(("found" : Str), v)] = some v := by simp [List.lookup]
    rw [q]
    exact r
  · rw [if_neg hw]
    have qw : (f == ("found" : Str)) = false := by simpa using hw
    have q2 : List.lookup f [(("found" : Str), v)] = none := by simp [List.lookup, qw]
    rw [q2]
    trivial
section
variable {X : Cx} {C fI : Addr} {qn msg cn : Str}
/-- E(e) -/
def tMkE (C : Addr) (ta : TA) : L2.St → Hp → XK → Prop := fun σ H Q => ta σ H fun vs H1 => ∃ v, vs = [v] ∧ ∀ d, H1 d = none → Q (.ref C) (some d) (upd H1 d (.xd [(("found" : Str), v)]))
theorem pmk_err {a : Expr} {ta : TA} {p pos : Pos} {k : Nat} (T : ErrTxt X.prog X.K C fI qn msg) (gC : X.mg cn = some (.ref C)) (hr : Room k X.A) (ha : PA X [a] ta) (hg : Gl X cn)
    (hdb : (cn == ("__debug__" : Str)) = false := by decide)
    (he : starEach (a :: []) X.env = (false, eval a X.env) :: starEach [] X.env := by rfl) (hpl : (backTo pos (starEach [] X.env)).any (·.1) = false := by rfl) :
    PMk X (.Call (.Name cn p) [a] [] pos) (tMkE C ta) := by
  intro pins s σ H Q I h
  apply wpAny_Call_Name_kw
  apply ld_glob I hg gC (hd := hdb)
  refine PySem.W.callWith_K (h₀ := X.base) I.ok.mod.kin T.kC (thn (ha.run pos pins s σ H _ I h) ?_) he hpl
  rintro us s1 ⟨vs, H1, I1, r1, v, ev, q1⟩
  subst ev
  refine ⟨I1.kIn, ?_⟩
  cases r1 with
  | cons rv rn =>
    rename_i v' us'
    cases rn
    show wpAny _ _ (call (.ref C) [v']) _ _ _
    have hlim := I1.nolimit
    have hgl := I1.mod.glob.keeps I1.bk
    obtain ⟨mb, hbl0, hbb⟩ := I1.mod.blt
    have hbl := hbl0.keeps I1.bk
    obtain ⟨hp, g, dr, tk, os⟩ := s1
    refine wpAny_call (err_made T I1.kIn hlim hgl hbl hbb (by have := hr.dp; omega) fun h' tk' e d M => ?_)
    show MkP X pins σ Q (.ref e) ⟨h', g, dr, tk', os⟩
    obtain ⟨oe, fv, hoe, hc, hd, hdat, h1⟩ := M.obj
    have hns := M.ns
    obtain ⟨G', g1, g2⟩ := restrict h' fun b => decide (b ≠ e)
    have gk : ∀ b, b ≠ e → G'.get? b = h'.get? b := fun b hb => g1 b (decide_eq_true hb)
    have ge : G'.get? e = none := g2 e (by simp)
    have old : ∀ b o, hp.get? b = some o → G'.get? b = some o := fun b o q => (gk b (Nat.ne_of_lt (Nat.lt_of_lt_of_le (Heap.lt_size q) M.new))).trans (M.keep b o q)
    have ob : ObjOk X.prog X.w (upd H1 d (.xd [(("found" : Str), v)])) G' d (.xd [(("found" : Str), v)]) :=
      ⟨_, hns.at (fun o q => (gk d M.dne).trans q), fun f => relO_f rv f⟩
    have J : Inv X pins σ (upd H1 d (.xd [(("found" : Str), v)])) ⟨G', g, dr, tk', os⟩ := I1.laid (t' := tk') old M.dbig ob
    refine ⟨e, oe, fv, ⟨G', g, dr, tk', os⟩, _, .ref C, some d, rfl, J, fun b o q => ?_, ge, hoe, ⟨hc, hd⟩, hdat, h1, ?_, rfl, I1.bare, raises_own T.exC T.tyC, q1 d (I1.hok.fresh M.dbig)⟩
    · by_cases hb : b = e
      · have q' : G'.get? b = some o := q
        rw [hb, ge] at q'
        cases q'
      · exact (gk b hb).symm.trans q
    · rw [upd_ne (Ne.symm M.dne)]
      exact I1.hok.fresh M.new
/-- raise E(e) -/
def tRaiseE (C : Addr) (W : WX) (ta : TA) : TS := fun _ σ H => tMkE C ta σ H fun cls d H' => W cls d σ H'
theorem ps_raiseE {a : Expr} {ta : TA} {W : WX} {p pos pos2 : Pos} {k : Nat} (hc : X.calm = true) (T : ErrTxt X.prog X.K C fI qn msg) (gC : X.mg cn = some (.ref C)) (hr : Room k X.A) (tk : Takes X W) (ha : PA X [a] ta) (hg : Gl X cn)
    (hdb : (cn == ("__debug__" : Str)) = false := by decide)
    (he : starEach (a :: []) X.env = (false, eval a X.env) :: starEach [] X.env := by rfl) (hpl : (backTo pos (starEach [] X.env)).any (·.1) = false := by rfl) :
    PS X (.Raise (some (.Call (.Name cn p) [a] [] pos)) none pos2) (tRaiseE C W ta) := ps_raise hc tk (pmk_err T gC hr ha hg hdb he hpl)
/-- e.found, e the exception that the suite holds (at a; its class cls, its dict d) -/
def tFound (C : Addr) (a : Addr) (cls : Value) (d : Option Addr) (te : TE) : TE := fun σ H Q => te σ H fun x H1 => x = .ref a ∧ cls = .ref C ∧ ∃ (dd : Addr) (v : V), d = some dd ∧ H1 dd = some (.xd [(("found" : Str), v)]) ∧ Q v H1
theorem pe_found {a : Addr} {oe : Obj} {cls : Value} {d : Option Addr} {pn : List (Addr × Obj)} {e : Expr} {te : TE} {pos : Pos} (T : ErrTxt X.prog X.K C fI qn msg) (hz : Zc cls d oe) (hf : ∃ vs, oe.data = .fields vs) (he : PE (X.suite a ((a, oe) :: pn)) e te)
    (hb : attributeBase e "found" X.env (eval e X.env) = eval e X.env := by rfl) :
    PE (X.suite a ((a, oe) :: pn)) (.Attribute e "found" pos) (tFound C a cls d te) := by
  constructor
  intro pins s σ H Q I h
  refine attr_of hb (thn (he.run pins s σ H _ I h) ?_)
  rintro u s1 ⟨x, H1, I1, rx, ex, ec, dd, v, ed, ea, q⟩
  subst ex
  obtain rfl : u = Value.ref a := rx
  subst ec
  subst ed
  have ha := (I1.pin (a, oe) (List.mem_append_left _ List.mem_cons_self)).1
  obtain ⟨vs, hd⟩ := hf
  have hx : ObjOk X.prog X.w H1 s1.heap dd (.xd [(("found" : Str), v)]) := I1.hok dd _ ea
  obtain ⟨mA, hns, hr⟩ := hx
  obtain ⟨od, ho, hl⟩ := lookIn_ns hns
  have l : List.lookup ("found" : Str) [(("found" : Str), v)] = some v := by simp [List.lookup]
  obtain ⟨u, hu, ru⟩ := RelO.some_of (v := v) (o := mA "found") (by rw [← l]; exact hr "found")
  have J : PySem.W.InstAt s1.heap a oe C (some od) := by
    refine ⟨ha, hz.1, ?_, by rw [hz.2]; exact ho⟩
    unfold PySem.W.notCls
    rw [hd]
    all_goals rfl
  exact HandSPX.exc_get I1.kIn J T.ga T.gg T.exC (PySem.W.findObj_own T.hdC T.noN rfl (by rw [hl, hu])) (handed_of ru) ⟨v, H1, I1.tok _, ru, q⟩
/-- what a class of errors must say so that isinstance asks it -/
structure IsTxt (K : PySem.W.Frag) (C : Addr) : Prop where
  ha : PySem.W.findIn K (.ref C) "__class__" = some (some (.builtin "object.__class__"))
  hn : PySem.W.specialIn K (.builtin "object.__class__") "__get__" = some (some (.builtin "getset_descriptor.__get__"))
  ht : PySem.W.takesIn K (.builtin "object.__class__") = some true
  hm : PySem.W.mroIn K C (.type "object") = some true
/-- isinstance(e, c), e the exception that the suite holds, with its own dict -/
def rIsF (K : PySem.W.Frag) (C a : Addr) (cls : Value) (d : Option Addr) : List V → Hp → VK → Prop := fun xs H Q => ∃ (c : V) (cv : Value) (b : Bool) (dd : Addr) (v : V), xs = [.ref a, c] ∧ cls = .ref C ∧ d = some dd ∧
  H dd = some (.xd [(("found" : Str), v)]) ∧ ClsV c cv ∧ PySem.W.kitOne K (.ref C) cv = some b ∧ Q (.bl b) H
theorem call_isF {a : Addr} {oe : Obj} {cls : Value} {d : Option Addr} {pn : List (Addr × Obj)} (T : ErrTxt X.prog X.K C fI qn msg) (S : IsTxt X.K C) (hz : Zc cls d oe) (hf : ∃ vs, oe.data = .fields vs) :
    CallR (X.suite a ((a, oe) :: pn)) (.builtin "isinstance") (rIsF X.K C a cls d) := by
  intro pins s σ H xs us Q I r h
  obtain ⟨c, cv, b, dd, v, rfl, rfl, rfl, ea, hcv, e, q⟩ := h
  obtain ⟨u1, u2, rfl, r1, r2⟩ := vals2 r
  cases (show u1 = Value.ref a from r1)
  have e2 := hcv.eq r2
  subst e2
  have ha := (I.pin (a, oe) (List.mem_append_left _ List.mem_cons_self)).1
  obtain ⟨vs, hd⟩ := hf
  have hx : ObjOk X.prog X.w H s.heap dd (.xd [(("found" : Str), v)]) := I.hok dd _ ea
  obtain ⟨mA, hns, _⟩ := hx
  obtain ⟨od, ho, _⟩ := lookIn_ns hns
  have J : PySem.W.InstAt s.heap a oe C (some od) := by
    refine ⟨ha, hz.1, ?_, by rw [hz.2]; exact ho⟩
    unfold PySem.W.notCls
    rw [hd]
    all_goals rfl
  have hcl : (PySem.W.clsIn X.K C).isSome = true := by
    obtain ⟨cd, hc, _⟩ := PySem.W.any_some T.hdC
    rw [hc]
    rfl
  exact PySem.W.kia_one (PySem.W.kitx_exc hcl T.ga T.gg T.exC S.ha S.hn S.ht S.hm) I.kIn J e (fun z => nomatch z) fun tk => ⟨.bl b, H, I.kept (t' := tk) fun _ _ z => z, rfl, q⟩
end
end Ge
/-! An own error whose __init__ says super().__init__(a text), then keeps the one thing it is made of. -/
namespace Gc
open PySem PySem.W PySem.Calls PyProof.Rows PySem.HandSPX
def iA (p1 p2 : Pos) : Arguments := { posonlyargs := [], args := [{ arg := "self", annotation := none, pos := p1 }, { arg := "count", annotation := none, pos := p2 }], vararg := none, kwonlyargs := [], kw_defaults := [], kwarg := none, defaults := [] }
def iB (msg : Str) (kk : Nat) (p1 p2 p3 p4 p5 p6 q1 q2 q3 q4 : Pos) : List Stmt :=
  [.Expr (.Call (.Attribute (.Call (.Name "super" p1) [] [] p2) "__init__" p3) [.Constant (.str msg) kk p4] [] p5) p6,
   .Assign [.Attribute (.Name "self" q1) "count" q2] (.Name "count" q3) q4]
def iS : Scope := { kind := .function, names := [(PySem.Str.ofString "self", .local), (PySem.Str.ofString "count", .local), (PySem.Str.ofString "__class__", .free), (PySem.Str.ofString "super", .globalImplicit)], isGenerator := false, isCoroutine := false, more := [] }
/-- what the written part says of the class at C and of its __init__ at fI -/
structure ErrTxt (P : Program) (K : Frag) (C fI : Addr) (qn msg : Str) : Prop where
  cls : ∃ nm q N bs bm sn sub ab col dd k0 k1 k2 k3 k5, K.lookup C = some (excClassObj nm q C N bs bm true sn sub ab col dd k0 k1 k2 k3 k5 "ValueError.__new__") ∧ refsVE bm = true
  sa : findIn K (.ref C) "__setattr__" = some (some (.builtin "object.__setattr__"))
  ga : findIn K (.ref C) "__getattribute__" = some (some (.builtin "BaseException.__getattribute__"))
  gg : findIn K (.ref C) "__getattr__" = some none
  noN : findIn K (.ref C) "count" = some none
  iC : findIn K (.ref C) "__init__" = some (some (.ref fI))
  tC : typeIn K (.ref fI) = some (.type "function")
  kC : keepIn K (.ref C) = true
  exC : subIn K (.ref C) (.type "BaseException") = some true
  veC : subIn K (.ref C) (.type "ValueError") = some true
  tyC : typeIn K (.ref C) = some (.type "type")
  hdC : hasDictIn K C = true
  sub : mroIn K C (.ref C) = some true
  sup : ks_superIn K C C "__init__" = some (some (.builtin "ValueError.__init__"))
  op : nsIn K cStatics "thirdparty.any" = some none
  zs : nsIn K mainGlobals "super" = some none
  htop : (P.main.scope.names.lookup ("super" : Str)).isSome = false
  fn : ∃ (oc : Value) (od : Option Addr) (doc pm : Value) (an : Option Addr) (cda cc : Addr) (ct : Value) (osl : Array (Option Value)) (kk : Nat) (p1 p2 p3 p4 p5 p6 q1 q2 q3 q4 r1 r2 : Pos) (ccl cl : Value) (cdd cld : Option Addr) (vs : Array Value) (ccs csl : Array (Option Value)) (file : Str) (tf : Tok),
    K.lookup fI = some ⟨oc, od, .func (ksFn "__init__" qn (iA r1 r2) (iB msg kk p1 p2 p3 p4 p5 p6 q1 q2 q3 q4) iS .none .none doc pm an (.ref cda) ct cc), osl⟩ ∧ codeIn K (.ref cda) qn = true ∧
    K.lookup cda = some ⟨ccl, cdd, .fields vs, ccs⟩ ∧ vs[2]? = some (.str file tf) ∧ ((P.main.file : Str) == file) = true ∧
    K.lookup cc = some ⟨cl, cld, .cell (some (.ref C)), csl⟩ ∧ (p3.endLine == p5.line) = true
/-- what __init__ leaves of a fresh exception at x -/
structure InitEnd (h h' : Heap) (x C dx t1 : Addr) (v : Value) : Prop where
  keep : ∀ b o, b ≠ x → h.get? b = some o → h'.get? b = some o
  obj : h'.get? x = some { cls := .ref C, dict := some dx, data := .fields #[.ref t1, .none, .none, .none, .bool false, .none] }
  dbig : h.objs.size ≤ dx
  dne : dx ≠ x
  ns : h'.Ns1 dx (fun y => if y = "count" then some v else none)
theorem iS_nocell : ∀ y ∈ iS.names, y.2 ≠ .cell := by decide +kernel
theorem iS_loc (x v : Value) : ∀ y ∈ ([(PySem.Str.ofString "self", x), (PySem.Str.ofString "count", v)] : List (Str × Value)), iS.names.lookup y.1 = some .local := by
  intro y hy
  simp only [List.mem_cons, List.not_mem_nil, or_false] at hy
  rcases hy with rfl | rfl
  · exact (by decide +kernel : iS.names.lookup (PySem.Str.ofString "self") = some .local)
  · exact (by decide +kernel : iS.names.lookup (PySem.Str.ofString "count") = some .local)
/-- o.name(..) in a body that is known to run, the call's line told -/
theorem at_method {M : Model} {A : Around} {c : Code} {E : Value → Shared → Prop} {s : Shared} {env : Env} {o : Expr} {name : Str} {apos pos : Pos} {args : List Expr} {Q : Value → Shared → Prop}
    (hl : (apos.endLine == pos.line) = true) (hf : methodCallForm (args.length + ([] : List Keyword).length) (backTo pos (starEach args env)) (backToKw pos (keywordEach [] env)) = true)
    (h : _root_.PySem.wpAt M A c (attributeBase o name env (eval o env)) (fun ov s₁ => wpAny M A (getMethod ov name (do return (← importBound o env).getD true))
      (fun fx s₂ => wpAny M A (callWith pos fx.1 fx.2 (backTo pos (starEach args env)) (backToKw pos (keywordEach [] env))) Q E s₂) E s₁) E s) :
    _root_.PySem.wpAt M A c (eval (.Call (.Attribute o name apos) args [] pos) env) Q E s := by
  rw [arm_eval_Call]
  apply _root_.PySem.wpAt_bind
  apply _root_.PySem.wpAt_mono h
  · intro ov s₁ h₁
    apply _root_.PySem.wpAt_of_wpAny
    apply wpAny_bind
    apply wpAny_standAt
    have hp : methodCallPos true o env apos pos = pure pos := by
      unfold methodCallPos
      simp [hl]
    unfold methodCall
    rw [hf]
    apply wpAny_bind
    apply wpAny_holding
    apply wpAny_mono h₁
    · intro fx s₂ h₂
      exact wpAny_bind (wpAny_of_eq hp h₂)
    · intro _ _ z
      exact z
  · intro _ _ z
    exact z
section
variable {prog : Program} {w : World} {A : Around} {E : Value → Shared → Prop} {R : Result → Shared → Prop} {s : Shared} {K : Frag} {mg mb : Str → Option Value} {C fI : Addr} {qn msg : Str}
theorem sup_call {h : Heap} {g : Array GenState} {d : Drawn} {t : Nat} {os : OsState} {u e t0 : Addr} {one : Value} {Q : Value → Shared → Prop}
    {nm q : Str} {N : Addr} {bs bm sub : List Value} {sn : List Str} {ab : Bool} {col : Option Bool} {dd : Option Addr} {k0 k1 k2 k3 k5 : Option Value}
    (hC : h.get? C = some (excClassObj nm q C N bs bm true sn sub ab col dd k0 k1 k2 k3 k5 "ValueError.__new__")) (he : h.get? e = some (excO C t0)) (hu : h.get? u = some (kxs_mw "ValueError.__init__" e))
    (hq : ∀ h' t1, (∀ b o, b ≠ e → h.get? b = some o → h'.get? b = some o) → h'.get? e = some (excO C t1) → Q .none ⟨h', g, d, t, os⟩) :
    wpAny (model prog w) A (call (.ref u) [one]) Q E ⟨h, g, d, t, os⟩ := by
  refine wpAny_call (codeAny_of_tree (show wpAny _ (Around.in1 _) (callAny (.ref u) ⟨[one], []⟩) _ _ _ from ?_))
  have e1 : (Value.type "method-wrapper" == Value.type "method" || Value.type "method-wrapper" == Value.type "builtin_function_or_method" || Value.type "method-wrapper" == Value.type "method-wrapper") = true := by decide
  simp only [callAny]
  refine wpAny_bind (m := load u) (wpAny_load hu ?_)
  simp only [kxs_mw, e1, if_true]
  refine (KFB.if_so (by decide) (wpAny_bind (check_bound_init F.excBase_ValueError.toExcCallFacts hC he rfl ?_)))
  refine (wpAny_bind (wpAny_pure (wpAny_pure (And.intro (plainId_quiet F.excBase_ValueError.init.plain _) (codeAny_builtin F.excBase_ValueError.initEntry ?_)))))
  have lz : [one].length ≤ sizeLine := by
    rw [sizeLine_eq]
    exact (by decide : 1 ≤ 16777216)
  exact exc_init_tree (cls := .ref C) (t0 := t0) (dv := none) (c2 := .none) (c3 := .none) (b4 := .bool false) he lz (fun h₄ k₄ hx₄ _ => hq h₄ _ k₄ hx₄)
theorem err_init (T : ErrTxt prog K C fI qn msg) {x t0 : Addr} {v : Value} (X : K.In s.heap) (lim : s.heap.NoLimit) (gl : s.heap.Ns mainGlobals mg) (bl : s.heap.Ns builtinsNs mb)
    (bb : ∀ x : Str, x ≠ "__name__" → mb x = bootBuiltins x) (hx : s.heap.get? x = some (excO C t0)) (hnx : K.lookup x = none) (room : A.depth < recursionLimit)
    (hq : ∀ h' tk dx t1, InitEnd s.heap h' x C dx t1 v → R (.ok (.ret .none)) { s with heap := h', toks := tk }) :
    codeAny (model prog w) A (.call (.ref fI) ⟨[.ref x, v], []⟩) R s := by
  obtain ⟨oc, od, doc, pm, an, cda, cc, ct, osl, kk, p1, p2, p3, p4, p5, p6, q1, q2, q3, q4, r1, r2, ccl, cl, cdd, cld, vs, ccs, csl, file, tf, ho, hcd, hcode, hvs, hfile, hcell, hline⟩ := T.fn
  obtain ⟨nm, q, N, bs, bm, sn, sub, ab, col, dd, k0, k1, k2, k3, k5, hC, hbm⟩ := T.cls
  have hzs := mg_none_of X gl T.zs
  obtain ⟨hp, g, dr, tk, os⟩ := s
  refine ks_codeAny_call_defAt (binds := [("self", .ref x), ("count", v)]) room (X _ _ ho) rfl lim (codeRec_of X hcd) rfl (BindsTo.of_eq (by first | rfl | with_unfolding_all rfl)) iS_nocell (iS_loc _ _) (fun h₁ hns k₁ => ?_) rfl rfl rfl
  have X₁ : K.In h₁ := X.keeps k₁
  have hx₁ := k₁ _ _ hx
  refine ks_wpAt_execs_cons (ks_wpAt_Expr_any (at_method hline (by first | rfl | with_unfolding_all rfl) ?_))
  refine ks_wpAt_super_base rfl rfl (by decide) rfl (X₁ _ _ ho) rfl rfl rfl (X₁ _ _ hcode) rfl hvs hfile T.htop ?_
  refine ks_loadName_global rfl rfl (loadGlobal_builtin (gl.keeps k₁) hzs (bl.keeps k₁) ((bb _ (by decide +kernel)).trans (by decide +kernel : bootBuiltins "super" = some (.type "super"))) ⟨rfl, ?_⟩)
  refine wpAny_loadName_free rfl rfl rfl ⟨_, X₁ _ _ hcell, rfl⟩ ?_
  refine wpAny_loadName_local rfl rfl hns (v := .ref x) (by first | rfl | with_unfolding_all rfl) ?_
  refine ks_wpAny_isType_cls (X₁ _ _ hC) rfl ⟨rfl, ?_⟩
  refine ks_wpAny_call_super (X₁ _ _ hC) rfl hx₁ rfl (fun c e => nomatch e) (looks_mroIn X₁ T.sub) (fun h₂ e₂ k₂ => ?_)
  have X₂ : K.In h₂ := X₁.keeps k₂
  have hx₂ := k₂ _ _ hx₁
  have I₂ : InstAt h₂ x (excO C t0) C none := ⟨hx₂, rfl, rfl, trivial⟩
  have hcl : clsIn K C = some { name := nm, bases := bs, mro := .ref C :: bm, ns := N, qualname := q, hasDict := true, slotNames := sn, subclasses := sub, abstract := ab, collection := col, hasDel := false } := by
    unfold clsIn
    rw [hC]
    all_goals rfl
  have hm := T.sup
  unfold ks_superIn at hm
  rw [hcl] at hm
  have hI : Looks (model prog w) h₂ (isInstance (.ref x) (.type "ValueError")) true := I₂.type.andThen (looks_subIn X₂ T.veC)
  have hxC : x ≠ C := fun z => by
    rw [z, hC] at hnx
    cases hnx
  refine kxs_getMethod kxs_ValueError e₂ (looks_opaque X₂ T.op) (l₀ := .ref C :: bm) ?_ rfl X₂ hm hI hxC (by decide +kernel) ?_
  · exact fun A Q E s k q => wpAny_bind ((looks_clsIn X₂ hcl) A _ E s k (wpAny_pure q))
  have hu : (h₂.push (kxs_mw "ValueError.__init__" x)).get? h₂.objs.size = some (kxs_mw "ValueError.__init__" x) := Heap.get?_push_at rfl rfl
  have k₃ : ∀ b o, h₂.get? b = some o → (h₂.push (kxs_mw "ValueError.__init__" x)).get? b = some o := fun b o e => Heap.get?_push_of_some _ e
  have X₃ : K.In (h₂.push (kxs_mw "ValueError.__init__" x)) := X₂.keeps k₃
  have hx₃ := k₃ _ _ hx₂
  refine kxs_callWith (i := "ValueError.__init__") (x := x) (by rfl) (evalArgs_plain ?_)
  refine Calls.spliced_cons (Calls.Constant_str (k := kk) (pos := p4) ?_)
  refine Calls.spliced_nil ⟨hu, ?_⟩
  refine sup_call (X₃ _ _ hC) hx₃ hu (fun h₄ t1 k₄ hx₄ => ?_)
  -- self.found = found
  have X₄ : K.In h₄ := fun a o e => k₄ a o (fun z => by rw [z, hnx] at e; cases e) (X₃ a o e)
  have hLx : hp.objs.size ≠ x := Nat.ne_of_gt (Heap.lt_size hx)
  have hn₄ := hns
  obtain ⟨oL, es, ep, eL, rL⟩ := hn₄
  have hn₄ : h₄.Ns hp.objs.size _ := ⟨oL, es, ep, k₄ _ _ hLx (k₃ _ _ (k₂ _ _ eL)), rL⟩
  have big : hp.objs.size < h₄.objs.size := hn₄.lt
  show _root_.PySem.wpAt _ _ _ (execs _ _) _ _ _
  refine _root_.PySem.wpAt_of_wpAny (wpAny_execs_cons (plainObj_wpAny_Assign_Attribute ?_))
  refine wpAny_Name (wpAny_loadName_local rfl rfl hn₄ (v := v) (by first | rfl | with_unfolding_all rfl) ?_) (by decide)
  refine wpAny_Name (wpAny_loadName_local rfl rfl hn₄ (v := .ref x) (by first | rfl | with_unfolding_all rfl) ?_) (by decide)
  refine set_plain X₄ (ox := excO C t1) (od := none) ⟨hx₄, rfl, rfl, trivial⟩ T.sa ?_
  refine HandSPX.exc_osa X₄ hx₄ hcl (show refsVE (.ref C :: bm) = true from hbm) rfl T.noN (fun h₅ tk₅ dx k₅ dn dne hx₅ hn₅ => ?_)
  show wpAny _ _ (execs _ _) _ _ _
  exact wpAny_execs_nil (hq h₅ tk₅ dx t1 ⟨fun b o hb e => k₅ b o hb (k₄ b o hb (k₃ b o (k₂ b o (k₁ b o e)))), hx₅, Nat.le_trans (Nat.le_of_lt big) dn, dne, hn₅⟩)
/-- an error that was made: its own dict d holds the thing -/
structure OwnMade (h h' : Heap) (e C d : Addr) (v : Value) : Prop where
  keep : ∀ b o, h.get? b = some o → h'.get? b = some o
  new : h.objs.size ≤ e
  obj : ∃ oe vs, h'.get? e = some oe ∧ oe.cls = .ref C ∧ oe.dict = some d ∧ oe.data = .fields vs ∧ vs[1]? = some .none
  dbig : h.objs.size ≤ d
  dne : d ≠ e
  ns : h'.Ns1 d (fun y => if y = "count" then some v else none)
theorem one_size (v : Value) : [v].length ≤ sizeLine := by
  rw [sizeLine_eq]
  exact (by decide : 1 ≤ 16777216)
theorem err_made (T : ErrTxt prog K C fI qn msg) {v : Value} (X : K.In s.heap) (lim : s.heap.NoLimit) (gl : s.heap.Ns mainGlobals mg) (bl : s.heap.Ns builtinsNs mb)
    (bb : ∀ x : Str, x ≠ "__name__" → mb x = bootBuiltins x) (room : A.depth + 1 < recursionLimit)
    (hq : ∀ h' tk e d, OwnMade s.heap h' e C d v → R (.ok (.ret (.ref e))) { s with heap := h', toks := tk }) :
    codeAny (model prog w) A (.call (.ref C) ⟨[v], []⟩) R s := by
  obtain ⟨nm, q, N, bs, bm, sn, sub, ab, col, dd, k0, k1, k2, k3, k5, hC, hbm⟩ := T.cls
  obtain ⟨hp, g, dr, tk, os⟩ := s
  have k : ∀ b o, hp.get? b = some o → ((hp.push (kdv_tup [v])).push (excO C hp.objs.size)).get? b = some o := fun b o e => Heap.get?_push_of_some _ (Heap.get?_push_of_some _ e)
  have hget : ((hp.push (kdv_tup [v])).push (excO C hp.objs.size)).get? (hp.objs.size + 1) = some (excO C hp.objs.size) := by heap_get
  have hnx : K.lookup (hp.objs.size + 1) = none := by
    cases e : K.lookup (hp.objs.size + 1) with
    | none => rfl
    | some o =>
      have z : hp.get? (hp.objs.size + 1) = some o := X _ _ e
      exact absurd (Nat.lt_of_succ_lt (Heap.lt_size z)) (Nat.lt_irrefl _)
  refine HandSPX.call_own F.excBase_ValueError (fun X => refsVE_contains X bm hbm) (X _ _ hC) (looks_findIn X T.iC) (fun self => bind_fn X self T.tC) (one_size v) ?_
  refine err_init (s := ⟨(hp.push (kdv_tup [v])).push (excO C hp.objs.size), g, dr, tk, os⟩) T (X.keeps k) (lim.keeps k) (gl.keeps k) (bl.keeps k) bb hget hnx ?_ fun h' tk' dx t1 ⟨k', hx, dn, dne, hns⟩ => ?_
  · show A.depth + 1 < recursionLimit
    exact room
  · have old : ∀ b o, hp.get? b = some o → h'.get? b = some o := fun b o e => k' b o (Nat.ne_of_lt (Nat.lt_succ_of_lt (Heap.lt_size e))) (k b o e)
    have z : hp.objs.size + 1 + 1 ≤ dx := by
      first
        | (simpa only [Heap.size_push] using dn)
        | exact dn
        | (have q := dn; rw [Heap.size_push, Heap.size_push] at q; exact q)
    exact ⟨rfl, hq h' tk' (hp.objs.size + 1) dx ⟨old, Nat.le_succ _, ⟨_, _, hx, rfl, rfl, rfl, rfl⟩, Nat.le_trans (Nat.le_trans (Nat.le_succ _) (Nat.le_succ _)) z, dne, hns⟩⟩
end
end Gc
namespace Gc
open PySem PySem.Spec PyProof.Rows L2
theorem relO_f {v : V} {v' : Value} (r : RelV v v') (f : Str) : RelO (List.lookup f [(("count" : Str), v)]) (if f = "count" then some v' else none) := by
  by_cases hw : f = "count"
  · subst hw
    rw [if_pos rfl]
    have q : List.lookup ("count" : Str) [(("count" : Str), v)] = some v := by simp [List.lookup]
    rw [q]
    exact r
  · rw [if_neg hw]
    have qw : (f == ("count" : Str)) = false := by simpa using hw
    have q2 : List.lookup f [(("count" : Str), v)] = none := by simp [List.lookup, qw]
    rw [q2]
    trivial
section
variable {X : Cx} {C fI : Addr} {qn msg cn : Str}
/-- E(e) -/
def tMkE (C : Addr) (ta : TA) : L2.St → Hp → XK → Prop := fun σ H Q => ta σ H fun vs H1 => ∃ v, vs = [v] ∧ ∀ d, H1 d = none → Q (.ref C) (some d) (upd H1 d (.xd [(("count" : Str), v)]))
theorem pmk_err {a : Expr} {ta : TA} {p pos : Pos} {k : Nat} (T : ErrTxt X.prog X.K C fI qn msg) (gC : X.mg cn = some (.ref C)) (hr : Room k X.A) (ha : PA X [a] ta) (hg : Gl X cn)
    (hdb : (cn == ("__debug__" : Str)) = false := by decide)
    (he : starEach (a :: []) X.env = (false, eval a X.env) :: starEach [] X.env := by rfl) (hpl : (backTo pos (starEach [] X.env)).any (·.1) = false := by rfl) :
    PMk X (.Call (.Name cn p) [a] [] pos) (tMkE C ta) := by
  intro pins s σ H Q I h
  apply wpAny_Call_Name_kw
  apply ld_glob I hg gC (hd := hdb)
  refine PySem.W.callWith_K (h₀ := X.base) I.ok.mod.kin T.kC (thn (ha.run pos pins s σ H _ I h) ?_) he hpl
  rintro us s1 ⟨vs, H1, I1, r1, v, ev, q1⟩
  subst ev
  refine ⟨I1.kIn, ?_⟩
  cases r1 with
  | cons rv rn =>
    rename_i v' us'
    cases rn
    show wpAny _ _ (call (.ref C) [v']) _ _ _
    have hlim := I1.nolimit
    have hgl := I1.mod.glob.keeps I1.bk
    obtain ⟨mb, hbl0, hbb⟩ := I1.mod.blt
    have hbl := hbl0.keeps I1.bk
    obtain ⟨hp, g, dr, tk, os⟩ := s1
    refine wpAny_call (err_made T I1.kIn hlim hgl hbl hbb (by have := hr.dp; omega) fun h' tk' e d M => ?_)
    show MkP X pins σ Q (.ref e) ⟨h', g, dr, tk', os⟩
    obtain ⟨oe, fv, hoe, hc, hd, hdat, h1⟩ := M.obj
    have hns := M.ns
    obtain ⟨G', g1, g2⟩ := restrict h' fun b => decide (b ≠ e)
    have gk : ∀ b, b ≠ e → G'.get? b = h'.get? b := fun b hb => g1 b (decide_eq_true hb)
    have ge : G'.get? e = none := g2 e (by simp)
    have old : ∀ b o, hp.get? b = some o → G'.get? b = some o := fun b o q => (gk b (Nat.ne_of_lt (Nat.lt_of_lt_of_le (Heap.lt_size q) M.new))).trans (M.keep b o q)
    have ob : ObjOk X.prog X.w (upd H1 d (.xd [(("count" : Str), v)])) G' d (.xd [(("count" : Str), v)]) :=
      ⟨_, hns.at (fun o q => (gk d M.dne).trans q), fun f => relO_f rv f⟩
    have J : Inv X pins σ (upd H1 d (.xd [(("count" : Str), v)])) ⟨G', g, dr, tk', os⟩ := I1.laid (t' := tk') old M.dbig ob
    refine ⟨e, oe, fv, ⟨G', g, dr, tk', os⟩, _, .ref C, some d, rfl, J, fun b o q => ?_, ge, hoe, ⟨hc, hd⟩, hdat, h1, ?_, rfl, I1.bare, raises_own T.exC T.tyC, q1 d (I1.hok.fresh M.dbig)⟩
    · by_cases hb : b = e
      · have q' : G'.get? b = some o := q
        rw [hb, ge] at q'
        cases q'
      · exact (gk b hb).symm.trans q
    · rw [upd_ne (Ne.symm M.dne)]
      exact I1.hok.fresh M.new
/-- raise E(e) -/
def tRaiseE (C : Addr) (W : WX) (ta : TA) : TS := fun _ σ H => tMkE C ta σ H fun cls d H' => W cls d σ H'
theorem ps_raiseE {a : Expr} {ta : TA} {W : WX} {p pos pos2 : Pos} {k : Nat} (hc : X.calm = true) (T : ErrTxt X.prog X.K C fI qn msg) (gC : X.mg cn = some (.ref C)) (hr : Room k X.A) (tk : Takes X W) (ha : PA X [a] ta) (hg : Gl X cn)
    (hdb : (cn == ("__debug__" : Str)) = false := by decide)
    (he : starEach (a :: []) X.env = (false, eval a X.env) :: starEach [] X.env := by rfl) (hpl : (backTo pos (starEach [] X.env)).any (·.1) = false := by rfl) :
    PS X (.Raise (some (.Call (.Name cn p) [a] [] pos)) none pos2) (tRaiseE C W ta) := ps_raise hc tk (pmk_err T gC hr ha hg hdb he hpl)
/-- e.found, e the exception that the suite holds (at a; its class cls, its dict d) -/
def tFound (C : Addr) (a : Addr) (cls : Value) (d : Option Addr) (te : TE) : TE := fun σ H Q => te σ H fun x H1 => x = .ref a ∧ cls = .ref C ∧ ∃ (dd : Addr) (v : V), d = some dd ∧ H1 dd = some (.xd [(("count" : Str), v)]) ∧ Q v H1
theorem pe_found {a : Addr} {oe : Obj} {cls : Value} {d : Option Addr} {pn : List (Addr × Obj)} {e : Expr} {te : TE} {pos : Pos} (T : ErrTxt X.prog X.K C fI qn msg) (hz : Zc cls d oe) (hf : ∃ vs, oe.data = .fields vs) (he : PE (X.suite a ((a, oe) :: pn)) e te)
    (hb : attributeBase e "count" X.env (eval e X.env) = eval e X.env := by rfl) :
    PE (X.suite a ((a, oe) :: pn)) (.Attribute e "count" pos) (tFound C a cls d te) := by
  constructor
  intro pins s σ H Q I h
  refine attr_of hb (thn (he.run pins s σ H _ I h) ?_)
  rintro u s1 ⟨x, H1, I1, rx, ex, ec, dd, v, ed, ea, q⟩
  subst ex
  obtain rfl : u = Value.ref a := rx
  subst ec
  subst ed
  have ha := (I1.pin (a, oe) (List.mem_append_left _ List.mem_cons_self)).1
  obtain ⟨vs, hd⟩ := hf
  have hx : ObjOk X.prog X.w H1 s1.heap dd (.xd [(("count" : Str), v)]) := I1.hok dd _ ea
  obtain ⟨mA, hns, hr⟩ := hx
  obtain ⟨od, ho, hl⟩ := lookIn_ns hns
  have l : List.lookup ("count" : Str) [(("count" : Str), v)] = some v := by simp [List.lookup]
  obtain ⟨u, hu, ru⟩ := RelO.some_of (v := v) (o := mA "count") (by rw [← l]; exact hr "count")
  have J : PySem.W.InstAt s1.heap a oe C (some od) := by
    refine ⟨ha, hz.1, ?_, by rw [hz.2]; exact ho⟩
    unfold PySem.W.notCls
    rw [hd]
    all_goals rfl
  exact HandSPX.exc_get I1.kIn J T.ga T.gg T.exC (PySem.W.findObj_own T.hdC T.noN rfl (by rw [hl, hu])) (handed_of ru) ⟨v, H1, I1.tok _, ru, q⟩
/-- what a class of errors must say so that isinstance asks it -/
structure IsTxt (K : PySem.W.Frag) (C : Addr) : Prop where
  ha : PySem.W.findIn K (.ref C) "__class__" = some (some (.builtin "object.__class__"))
  hn : PySem.W.specialIn K (.builtin "object.__class__") "__get__" = some (some (.builtin "getset_descriptor.__get__"))
  ht : PySem.W.takesIn K (.builtin "object.__class__") = some true
  hm : PySem.W.mroIn K C (.type "object") = some true
/-- isinstance(e, c), e the exception that the suite holds, with its own dict -/
def rIsF (K : PySem.W.Frag) (C a : Addr) (cls : Value) (d : Option Addr) : List V → Hp → VK → Prop := fun xs H Q => ∃ (c : V) (cv : Value) (b : Bool) (dd : Addr) (v : V), xs = [.ref a, c] ∧ cls = .ref C ∧ d = some dd ∧
  H dd = some (.xd [(("count" : Str), v)]) ∧ ClsV c cv ∧ PySem.W.kitOne K (.ref C) cv = some b ∧ Q (.bl b) H
theorem call_isF {a : Addr} {oe : Obj} {cls : Value} {d : Option Addr} {pn : List (Addr × Obj)} (T : ErrTxt X.prog X.K C fI qn msg) (S : IsTxt X.K C) (hz : Zc cls d oe) (hf : ∃ vs, oe.data = .fields vs) :
    CallR (X.suite a ((a, oe) :: pn)) (.builtin "isinstance") (rIsF X.K C a cls d) := by
  intro pins s σ H xs us Q I r h
  obtain ⟨c, cv, b, dd, v, rfl, rfl, rfl, ea, hcv, e, q⟩ := h
  obtain ⟨u1, u2, rfl, r1, r2⟩ := vals2 r
  cases (show u1 = Value.ref a from r1)
  have e2 := hcv.eq r2
  subst e2
  have ha := (I.pin (a, oe) (List.mem_append_left _ List.mem_cons_self)).1
  obtain ⟨vs, hd⟩ := hf
  have hx : ObjOk X.prog X.w H s.heap dd (.xd [(("count" : Str), v)]) := I.hok dd _ ea
  obtain ⟨mA, hns, _⟩ := hx
  obtain ⟨od, ho, _⟩ := lookIn_ns hns
  have J : PySem.W.InstAt s.heap a oe C (some od) := by
    refine ⟨ha, hz.1, ?_, by rw [hz.2]; exact ho⟩
    unfold PySem.W.notCls
    rw [hd]
    all_goals rfl
  have hcl : (PySem.W.clsIn X.K C).isSome = true := by
    obtain ⟨cd, hc, _⟩ := PySem.W.any_some T.hdC
    rw [hc]
    rfl
  exact PySem.W.kia_one (PySem.W.kitx_exc hcl T.ga T.gg T.exC S.ha S.hn S.ht S.hm) I.kIn J e (fun z => nomatch z) fun tk => ⟨.bl b, H, I.kept (t' := tk) fun _ _ z => z, rfl, q⟩
end
end Gc
/-! Defs that raise, their promise kept where no repr is under way. -/
namespace Gd
open PySem PySem.Spec PyProof.Rows L2
structure CalX (P : Program) (w : World) (K : PySem.W.Frag) (mg : Str → Option Value) (base : Heap) (k : Nat) (x : Str) (sp : Sp) : Prop where
  ex : ∃ (f : Addr) (fd : FuncData) (ps : List Str), FnG P w K mg base (L2.CX P w) k f fd ps sp ∧ mg x = some (.ref f) ∧
    PySem.W.keepIn K (.ref f) = true ∧ Binds K fd ps []
section
variable {P : Program} {w : World} {K : PySem.W.Frag} {mg : Str → Option Value} {base : Heap}
theorem okGX {x qual : Str} {st : Stmt} {f : Addr} {fd : FuncData} {N ps : List Str} {k : Nat} {sp : Sp}
    (F : Fun K x qual st f fd) (S : FnScope N ps (defScope st))
    (ar : ∀ vs H Q E, sp vs H Q E → vs.length = ps.length)
    (bd : ∀ (cdv : Value) (A : Around) (outer : List Env) (s : Shared) (H : Hp) (vs : List V) (Q : VK) (E : XK),
      A.guards = some [] → Room k (A.deeper (envOfC qual (defScope st) s.heap.objs.size f cdv)) → sp vs H Q E →
      ∃ t, PSs (cxOf (L2.CX P w) P w K mg base N qual (defScope st) f cdv A outer s H E) (defBody st) t ∧
        t { nx := fun _ H' => Q .non H', rt := Q } (start N vs) H) :
    FnG P w K mg base (L2.CX P w) (k + 1) f fd ps sp := by
  obtain ⟨oc, od, kV, doc, pm, an, cdv, ct, osl, rfl, lk, cin⟩ := F.ex
  exact fnG_of lk cin S ar fun A outer s H vs Q E hG room prem => bd cdv A outer s H vs Q E hG room prem
theorem DefAt.calX {x : Str} {st : Stmt} {N ps : List Str} {k : Nat} {sp : Sp} (D : DefAt K mg x st ps) (S : FnScope N ps (defScope st))
    (ar : ∀ vs H Q E, sp vs H Q E → vs.length = ps.length)
    (bd : ∀ (f : Addr) (cdv : Value) (A : Around) (outer : List Env) (s : Shared) (H : Hp) (vs : List V) (Q : VK) (E : XK),
      A.guards = some [] → Room k (A.deeper (envOfC x (defScope st) s.heap.objs.size f cdv)) → sp vs H Q E →
      ∃ t, PSs (cxOf (L2.CX P w) P w K mg base N x (defScope st) f cdv A outer s H E) (defBody st) t ∧
        t { nx := fun _ H' => Q .non H', rt := Q } (start N vs) H) : CalX P w K mg base (k + 1) x sp := by
  obtain ⟨f, fd, F, m, b⟩ := D.ex
  exact ⟨f, fd, ps, okGX F S ar (bd f), m, F.kp, b⟩
end
section
variable {X : Cx} {k : Nat} {sp : Sp} {x : Str} {p pos : Pos} {e : Expr} {es : List Expr} {t : TA} {E : L2.St → XK}
theorem enterX {CX : CXT} {f : Addr} {fd : FuncData} {ps : List Str} {pins : List (Addr × Obj)} {σ : L2.St} {H : Hp} {s : Shared} {Q : VK} {us : List Value} {vs : List V} (F : FnG X.prog X.w X.K X.mg X.base CX k f fd ps sp) (hG : X.A.guards = some []) (hr : Room k X.A) (hb : Binds X.K fd ps []) (hx : PassesAt CX X σ (E σ))
    (I : Inv X pins σ H s) (r : Vals vs us) (h : sp vs H Q (E σ)) : wpAny (model X.prog X.w) X.A (call (.ref f) us) (EP X pins σ Q) X.xe s := by
  have hl : us.length = ps.length := r.length ▸ F.arity _ _ _ _ h
  have b := hb s us I.kIn (by rw [List.append_nil]; exact hl)
  rw [List.append_nil] at b
  apply wpAny_call
  apply codeAny_mono (F.go X.A X.stack s H ⟨us, []⟩ us vs Q (E σ) hG hr I.env0 b r h)
  intro r s' hq
  match r, hq with
  | .error e, hq => exact hx pins H s e s' I hq
  | .ok (.ret u), hq => exact I.after hq
  | .ok .next, hq => exact hq.elim
  | .ok .brk, hq => exact hq.elim
  | .ok .cont, hq => exact hq.elim
/-- f(e, ..) of a def that may raise, its promise kept where no repr is under way -/
theorem pe_gx {W : WX} (c : CalX X.prog X.w X.K X.mg X.base k x sp) (hG : X.A.guards = some []) (hr : Room k X.A) (hg : Gl X x) (tk : Takes X W)
    (ha : PA X (e :: es) t) (hdb : (x == ("__debug__" : Str)) = false := by decide)
    (he : starEach (e :: es) X.env = (false, eval e X.env) :: starEach es X.env := by rfl)
    (hpl : (backTo pos (starEach es X.env)).any (·.1) = false := by rfl) :
    PE X (.Call (.Name x p) (e :: es) [] pos) (tCallS sp (WE W) t) := by
  obtain ⟨f, fd, ps, F, m, kp, b⟩ := c.ex
  constructor
  intro pins s σ H Q J prem
  have arg := ha.run pos pins s σ H _ J prem
  apply wpAny_Call_Name_kw
  apply ld_glob J hg m (hd := hdb)
  apply PySem.W.callWith_K (h₀ := X.base) J.ok.mod.kin kp (he := he) (hplain := hpl)
  apply thn arg
  rintro us s1 ⟨vs, H1, J1, rel, q⟩
  exact ⟨J1.kIn, enterX (E := WE W) F hG hr b (passAt tk σ) J1 rel q⟩
/-- the same, where it raises nothing -/
theorem pe_gN (c : CalX X.prog X.w X.K X.mg X.base k x sp) (hG : X.A.guards = some []) (hr : Room k X.A) (hg : Gl X x)
    (ha : PA X (e :: es) t) (hdb : (x == ("__debug__" : Str)) = false := by decide)
    (he : starEach (e :: es) X.env = (false, eval e X.env) :: starEach es X.env := by rfl)
    (hpl : (backTo pos (starEach es X.env)).any (·.1) = false := by rfl) :
    PE X (.Call (.Name x p) (e :: es) [] pos) (tCall sp [] E0 t) := by
  obtain ⟨f, fd, ps, F, m, kp, b⟩ := c.ex
  exact pe_callG F hG hr hg m kp b .nil passL ha hdb he hpl
end
end Gd
/-! A method whose body begins with a call of super().m(..), an own class's, the method that it finds a def that keeps its promise. -/
namespace Gs
open PySem PySem.Spec PyProof.Rows L2 Gd NdefX
open PySem.Calls
open PySem.W (Frag ksFn ks_superIn ks_loadName_global looks_mroIn looks_opaque looks_clsIn clsIn)
/-- what the written part says of the def F at f, of class D, and of super().m in it, g above D as seen from C -/
structure SupTxt (P : Program) (K : Frag) (C D f g cc : Addr) (F : NF) (m : Str) : Prop where
  fn : ∃ (oc : Value) (od : Option Addr) (doc pm : Value) (an : Option Addr) (ct : Value) (osl : Array (Option Value)),
    K.lookup f = some ⟨oc, od, .func (ksFn F.name F.qual F.params F.body F.scope .none .none doc pm an (.ref F.c) ct cc), osl⟩
  cl : F.cl = [(("__class__" : Str), cc)]
  code : PySem.W.codeIn K (.ref F.c) F.qual = true
  cod : ∃ (ccl : Value) (cdd : Option Addr) (vs : Array Value) (ccs : Array (Option Value)) (file : Str) (tf : Tok),
    K.lookup F.c = some ⟨ccl, cdd, .fields vs, ccs⟩ ∧ vs[2]? = some (.str file tf) ∧ ((P.main.file : Str) == file) = true
  cell : ∃ (cv : Value) (cd : Option Addr) (csl : Array (Option Value)), K.lookup cc = some ⟨cv, cd, .cell (some (.ref D)), csl⟩
  isD : ∃ cd, clsIn K D = some cd
  sub : PySem.W.mroIn K C (.ref D) = some true
  sup : ks_superIn K C D m = some (some (.ref g))
  ty : PySem.W.typeIn K (.ref g) = some (.type "function")
  fg : PySem.W.fnIn K g = true
  op : PySem.W.nsIn K cStatics "thirdparty.any" = some none
  zs : PySem.W.nsIn K mainGlobals "super" = some none
  htop : (P.main.scope.names.lookup ("super" : Str)).isSome = false
  hm : (m == ("__class__" : Str)) = false
  hks : F.scope.names.lookup ("super" : Str) = some .globalImplicit
  hkc : F.scope.names.lookup ("__class__" : Str) = some .free
  hself : F.scope.names.lookup ("self" : Str) = some .local
  arg : ∃ ar, (F.params.posonlyargs ++ F.params.args).head? = some ar ∧ ar.arg = "self"
section
variable {CX : CXT} {P : Program} {w : World} {K : Frag} {mg : Str → Option Value} {base : Heap} {N : List Str} {F : NF} {f g C D cc : Addr} {A : Around} {outer : List Env} {s0 : Shared} {H0 : Hp} {E0 : XK} {m : Str}
theorem at_super {body : List Stmt} {p0 p1 apos pos : Pos} {args : List Expr} {s : Shared} {pins : List (Addr × Obj)} {σ : L2.St} {H : Hp} {x dx : Addr} {fs : List (Str × V)} {Q : Value → Shared → Prop}
    (T : SupTxt P K C D f g cc F m) (hline : (apos.endLine == pos.line) = true)
    (hform : methodCallForm (args.length + ([] : List Keyword).length) (backTo pos (starEach args (envF F f s0.heap.objs.size))) (backToKw pos (keywordEach [] (envF F f s0.heap.objs.size))) = true)
    (I : Inv (ncx CX P w K mg base N F f A outer s0 H0 E0) pins σ H s) (hN : N[0]? = some ("self" : Str)) (hσ : σ[0]? = some (some (.ref x))) (hx : H x = some (.ins C dx fs))
    (h : ∀ (q : Addr) (s' : Shared), Inv (ncx CX P w K mg base N F f A outer s0 H0 E0) (pins ++ [(q, PySem.W.methodObj (.ref g) (.ref x))]) σ H s' →
      wpAny (model P w) (ncx CX P w K mg base N F f A outer s0 H0 E0).A (callWith pos (.ref q) [] (backTo pos (starEach args (envF F f s0.heap.objs.size))) (backToKw pos (keywordEach [] (envF F f s0.heap.objs.size)))) Q (ncx CX P w K mg base N F f A outer s0 H0 E0).xe s') :
    _root_.PySem.wpAt (model P w) (ncx CX P w K mg base N F f A outer s0 H0 E0).A (.func body (envF F f s0.heap.objs.size))
      (eval (.Call (.Attribute (.Call (.Name "super" p0) [] [] p1) m apos) args [] pos) (envF F f s0.heap.objs.size)) Q (ncx CX P w K mg base N F f A outer s0 H0 E0).xe s := by
  obtain ⟨oc, od, doc, pm, an, ct, osl, hf⟩ := T.fn
  obtain ⟨ccl, cdd, vs, ccs, file, tf, hcode, hvs, hfile⟩ := T.cod
  obtain ⟨cv, cd0, csl, hcell⟩ := T.cell
  obtain ⟨ar, harg, hself⟩ := T.arg
  obtain ⟨cdD, hD⟩ := T.isD
  have X := I.kIn
  obtain ⟨mb, hbl0, hbb⟩ := I.mod.blt
  have hgl := I.mod.glob.keeps I.bk
  have hbl := hbl0.keeps I.bk
  have hzs := PySem.W.mg_none_of I.mod.kin I.mod.glob T.zs
  obtain ⟨mA, O, _⟩ := ins_get I.hok hx
  obtain ⟨ml, hns, look⟩ := I.loc
  refine Ge.at_method hline hform ?_
  refine ks_wpAt_super_base T.hks T.hkc T.hm rfl (X _ _ hf) rfl harg rfl (X _ _ hcode) rfl hvs hfile T.htop ?_
  refine ks_loadName_global I.ok.kind T.hks (loadGlobal_builtin hgl hzs hbl ((hbb _ (by decide +kernel)).trans (by decide +kernel : bootBuiltins "super" = some (.type "super"))) ⟨rfl, ?_⟩)
  refine wpAny_loadName_free I.ok.kind T.hkc (by show F.cl.lookup _ = _; rw [T.cl]; rfl) ⟨_, X _ _ hcell, rfl⟩ ?_
  have eS : (ncx CX P w K mg base N F f A outer s0 H0 E0).env.scope.names.lookup ("self" : Str) = some .local := T.hself
  obtain ⟨u, ru, lk⟩ := look 0 ("self" : Str) (.ref x) hN hσ (.inl eS)
  have hml : ml ("self" : Str) = some (.ref x) := by
    rcases lk with ⟨_, z⟩ | ⟨z, _⟩
    · rw [z]
      exact congrArg some ru
    · rcases z with z | z
      · have : some NameKind.local = some NameKind.cell := eS.symm.trans z
        cases this
      · have : some NameKind.local = some NameKind.free := eS.symm.trans z
        cases this
  refine wpAny_loadName_local I.ok.kind (by rw [hself]; exact T.hself) hns (v := .ref x) (by rw [hself]; exact hml) ?_
  obtain ⟨oD, hD1, hD2⟩ : ∃ oD, s.heap.get? D = some oD ∧ oD.data = .cls cdD := by
    unfold clsIn at hD
    split at hD
    · rename_i c d cd' sl ho
      cases hD
      exact ⟨_, X _ _ ho, rfl⟩
    · cases hD
  refine ks_wpAny_isType_cls hD1 hD2 ⟨rfl, ?_⟩
  obtain ⟨hp, gs, dr, tk, os⟩ := s
  refine ks_wpAny_call_super hD1 hD2 O.obj rfl (fun c e => nomatch e) (looks_mroIn X T.sub) (fun h₂ e₂ k₂ => ?_)
  have J2 : Inv (ncx CX P w K mg base N F f A outer s0 H0 E0) pins σ H ⟨h₂, gs, dr, tk, os⟩ := I.kept (t' := tk) k₂
  have X₂ := J2.kIn
  have hsup := T.sup
  cases hc : clsIn K C with
  | none =>
    unfold ks_superIn at hsup
    rw [hc] at hsup
    cases hsup
  | some cd =>
    unfold ks_superIn at hsup
    rw [hc] at hsup
    obtain ⟨of, hof, hofc⟩ : ∃ of, h₂.get? g = some of ∧ of.cls = .type "function" := by
      have ht := T.ty
      have ht' : (K.lookup g).map (·.cls) = some (.type "function") := ht
      cases z : K.lookup g with
      | none =>
        rw [z] at ht'
        cases ht'
      | some of =>
        rw [z] at ht'
        exact ⟨of, X₂ _ _ z, Option.some.inj ht'⟩
    have hxC : x ≠ C := fun e => by
      unfold clsIn at hc
      cases z : K.lookup C with
      | none =>
        rw [z] at hc
        cases hc
      | some oC =>
        have hb := I.mod.kin _ _ z
        have := (I.bs C oC hb).2
        rw [← e, hx] at this
        cases this
    refine ks_wpAny_getMethod_super e₂ (looks_opaque X₂ T.op) (l₀ := cd.mro) ?_ rfl X₂ hsup hof hofc hxC T.hm ?_
    · exact fun A Q E s k q => wpAny_bind ((looks_clsIn X₂ hc) A _ E s k (wpAny_pure q))
    · have k₃ : ∀ b o, h₂.get? b = some o → (h₂.push (PySem.W.methodObj (.ref g) (.ref x))).get? b = some o := fun b o e => Heap.get?_push_of_some _ e
      have J3 : Inv (ncx CX P w K mg base N F f A outer s0 H0 E0) pins σ H ⟨h₂.push (PySem.W.methodObj (.ref g) (.ref x)), gs, dr, tk + 1, os⟩ := J2.kept (t' := tk + 1) k₃
      refine h h₂.objs.size _ (J3.pins_of fun p hp => ?_)
      rcases List.mem_append.mp hp with hp | hp
      · exact J3.pin p (List.mem_append_right _ hp)
      · rw [List.mem_singleton.mp hp]
        refine ⟨Heap.get?_push_at rfl rfl, J2.hok.fresh (Nat.le_refl _), Nat.ne_of_gt J2.lt, J2.nofs (Nat.le_refl _), fun v e => nomatch e⟩
/-- a call of the found method, its self bound -/
theorem run_bound {X : Cx} {CX2 : CXT} {k : Nat} {g q x : Addr} {fd : FuncData} {ps : List Str} {sp : Sp} {E : XK} {pins : List (Addr × Obj)} {σ : L2.St} {H : Hp} {s : Shared} {Q : VK} {us : List Value} {vs : List V}
    (G : FnOk X.prog X.w X.K X.mg X.base CX2 k g fd ps sp) (hr : Room k X.A) (hb : Binds X.K fd ps []) (hx : Passes CX2 X E) (I : Inv X pins σ H s)
    (hq : s.heap.get? q = some (PySem.W.methodObj (.ref g) (.ref x))) (r : Vals vs us) (h : sp (.ref x :: vs) H Q E) :
    wpAny (model X.prog X.w) X.A (call (.ref q) us) (EP X pins σ Q) X.xe s := by
  have r2 : Vals (.ref x :: vs) (.ref x :: us) := .cons rfl r
  have long : (Value.ref x :: us).length = ps.length := r2.length ▸ G.len _ _ _ _ h
  have b := hb s (.ref x :: us) I.kIn (by rw [List.append_nil]; exact long)
  rw [List.append_nil] at b
  apply wpAny_call
  apply ks_codeAny_call_bound hq
  apply codeAny_mono (G.run X.A X.stack s H ⟨.ref x :: us, []⟩ (.ref x :: us) (.ref x :: vs) Q E hr I.env0 b r2 h)
  intro r s' hs
  match r, hs with
  | .error _, hs => exact hx pins σ H s _ s' I hs
  | .ok (.ret _), hs => exact I.after hs
  | .ok .next, hs => exact hs.elim
  | .ok .brk, hs => exact hs.elim
  | .ok .cont, hs => exact hs.elim
/-- super().m(e, ..) as a value -/
theorem eval_super {CX2 : CXT} {k : Nat} {fd : FuncData} {ps : List Str} {sp : Sp} {E : XK} {body : List Stmt} {p0 p1 apos pos : Pos} {e : Expr} {es : List Expr} {ta : TA} {s : Shared} {pins : List (Addr × Obj)} {σ : L2.St} {H : Hp} {x dx : Addr} {fs : List (Str × V)} {Q : VK}
    (T : SupTxt P K C D f g cc F m) (hline : (apos.endLine == pos.line) = true)
    (hform : methodCallForm ((e :: es).length + ([] : List Keyword).length) (backTo pos (starEach (e :: es) (envF F f s0.heap.objs.size))) (backToKw pos (keywordEach [] (envF F f s0.heap.objs.size))) = true)
    (I : Inv (ncx CX P w K mg base N F f A outer s0 H0 E0) pins σ H s) (hN : N[0]? = some ("self" : Str)) (hσ : σ[0]? = some (some (.ref x))) (hx : H x = some (.ins C dx fs))
    (G : FnOk P w K mg base CX2 k g fd ps sp) (hr : Room k (ncx CX P w K mg base N F f A outer s0 H0 E0).A) (hb : Binds K fd ps []) (hp : Passes CX2 (ncx CX P w K mg base N F f A outer s0 H0 E0) E)
    (ha : PA (ncx CX P w K mg base N F f A outer s0 H0 E0) (e :: es) ta)
    (he : starEach (e :: es) (envF F f s0.heap.objs.size) = (false, eval e (envF F f s0.heap.objs.size)) :: starEach es (envF F f s0.heap.objs.size))
    (hpl : (backTo pos (starEach es (envF F f s0.heap.objs.size))).any (·.1) = false)
    (h : ta σ H fun vs H1 => sp (.ref x :: vs) H1 Q E) :
    _root_.PySem.wpAt (model P w) (ncx CX P w K mg base N F f A outer s0 H0 E0).A (.func body (envF F f s0.heap.objs.size))
      (eval (.Call (.Attribute (.Call (.Name "super" p0) [] [] p1) m apos) (e :: es) [] pos) (envF F f s0.heap.objs.size)) (EP (ncx CX P w K mg base N F f A outer s0 H0 E0) pins σ Q) (ncx CX P w K mg base N F f A outer s0 H0 E0).xe s := by
  refine at_super T hline hform I hN hσ hx fun q s' J => ?_
  have run := ha.run pos _ s' σ H _ J h
  rw [show starEach (e :: es) (envF F f s0.heap.objs.size) = _ from he]
  rw [show starEach (e :: es) (ncx CX P w K mg base N F f A outer s0 H0 E0).env = _ from he] at run
  apply PySem.W.callWith_of (P := PySem.W.MethP K q g (.ref x)) (by show ((false || (backTo pos (starEach es _)).any (·.1)) || false) = false; rw [hpl]; rfl) (PySem.W.keeps_M T.fg)
  apply evalArgs_plain
  apply thn run
  rintro us s1 ⟨vs, H1, J1, rel, q1⟩
  have hq := (J1.pin (q, PySem.W.methodObj (.ref g) (.ref x)) (List.mem_append_right _ (List.mem_append_right _ List.mem_cons_self))).1
  refine ⟨⟨hq, J1.kIn⟩, ?_⟩
  refine wpAny_mono (run_bound (pins := pins ++ [(q, PySem.W.methodObj (.ref g) (.ref x))]) G hr hb hp J1 hq rel q1) (fun v s2 hv => ?_) fun _ _ z => z
  obtain ⟨y, H2, J2, ry, qy⟩ := hv
  exact ⟨y, H2, J2.pins_of fun p hp => J2.pin p (List.mem_append_right _ (List.mem_append_left _ hp)), ry, qy⟩
theorem cells_at (T : SupTxt P K C D f g cc F m) (e0 : Env0 P w K mg base A outer s0 H0) : CellsAt F.cl ["__class__"] [some (.ref D)] s0.heap H0 := by
  obtain ⟨cv, cd0, csl, hcell⟩ := T.cell
  have hb := e0.mod.kin _ _ hcell
  obtain ⟨h1, h2⟩ := e0.bs _ _ hb
  have hl : ∀ y c, F.cl.lookup y = some c → y = ("__class__" : Str) ∧ c = cc := fun y c z => by
    rw [T.cl] at z
    by_cases e : y = ("__class__" : Str)
    · subst e
      refine ⟨rfl, ?_⟩
      simpa [List.lookup] using z.symm
    · have e2 : (y == ("__class__" : Str)) = false := by simpa using e
      simp [List.lookup, e2] at z
  refine ⟨rfl, fun y c z => ?_, fun a b c z1 z2 => (hl a c z1).1.trans (hl b c z2).1.symm, fun i y z => ?_⟩
  · rw [(hl y c z).2]
    exact ⟨h2, _, _, h1, rfl⟩
  · cases i with
    | zero =>
      cases (show some ("__class__" : Str) = some y from z)
      refine ⟨cc, by rw [T.cl]; simp [List.lookup], fun v ev => ?_⟩
      cases (show some (some (V.ref D)) = some (some v) from ev)
      exact ⟨.ref D, rfl, _, h1, rfl⟩
    | succ n => cases z
/-- a def y = super().m(e, ..); .. keeps its promise -/
theorem okS_set {CX2 : CXT} {k i : Nat} {fd2 : FuncData} {ps ps2 : List Str} {sp sp2 : Sp} {p0 p1 apos pos py pst : Pos} {e : Expr} {es : List Expr} {st : List Stmt} {y : Str}
    {oc : Value} {od : Option Addr} {doc pm : Value} {an : Option Addr} {ct : Value} {osl : Array (Option Value)}
    (T : SupTxt P K C D f g cc F m) (hf : K.lookup f = some ⟨oc, od, .func (ksFn F.name F.qual F.params F.body F.scope .none .none doc pm an (.ref F.c) ct cc), osl⟩)
    (S : NScope N ps ["__class__"] F.scope)
    (hbd : F.body = .Assign [.Name y py] (.Call (.Attribute (.Call (.Name "super" p0) [] [] p1) m apos) (e :: es) [] pos) pst :: st)
    (ar : ∀ vs H Q E, sp vs H Q E → vs.length = ps.length) (hN : N[0]? = some ("self" : Str)) (hi : N[i]? = some y) (hy : F.scope.names.lookup y = some .local)
    (G : FnOk P w K mg base CX2 k g fd2 ps2 sp2) (hb2 : Binds K fd2 ps2 [])
    (hline : (apos.endLine == pos.line) = true)
    (hform : ∀ L, methodCallForm ((e :: es).length + ([] : List Keyword).length) (backTo pos (starEach (e :: es) (envF F f L))) (backToKw pos (keywordEach [] (envF F f L))) = true)
    (he : ∀ L, starEach (e :: es) (envF F f L) = (false, eval e (envF F f L)) :: starEach es (envF F f L))
    (hpl : ∀ L, (backTo pos (starEach es (envF F f L))).any (·.1) = false)
    (hsw : ∀ L, swapsWith (.Call (.Attribute (.Call (.Name "super" p0) [] [] p1) m apos) (e :: es) [] pos) (some (.Name y py)) pst.line (envF F f L) = pure false)
    (bd : ∀ (A : Around) (outer : List Env) (s : Shared) (H : Hp) (vs : List V) (Q : VK) (E : XK), Room k (A.deeper (envF F f s.heap.objs.size)) → sp vs H Q E →
      ∃ (x dx : Addr) (fs : List (Str × V)) (E2 : XK) (ta : TA) (tr : TS), (startF N vs [some (.ref D)])[0]? = some (some (.ref x)) ∧ H x = some (.ins C dx fs) ∧ Passes CX2 (ncx CX P w K mg base N F f A outer s H E) E2 ∧
        PA (ncx CX P w K mg base N F f A outer s H E) (e :: es) ta ∧ PSs (ncx CX P w K mg base N F f A outer s H E) st tr ∧
        ta (startF N vs [some (.ref D)]) H fun ws H1 => sp2 (.ref x :: ws) H1 (fun v H2 => tr { nx := fun _ H' => Q .non H', rt := Q } ((startF N vs [some (.ref D)]).set i (some v)) H2) E2) :
    FnOk P w K mg base CX (k + 1) f (ksFn F.name F.qual F.params F.body F.scope .none .none doc pm an (.ref F.c) ct cc) ps sp := by
  refine ⟨ar, fun A outer s H args us vs Q E room env bind rel prem => ?_⟩
  have kin : K.In s.heap := env.mod.kin.keeps fun b o z => (env.bs b o z).1
  have nl : s.heap.NoLimit := env.mod.nolimit.keeps fun b o z => (env.bs b o z).1
  have long := ar _ _ _ _ prem
  obtain ⟨x, dx, fs, E2, ta, tr, hσ, hx, hp, ha, hr, q⟩ := bd A outer s H vs Q E (room.deeper _) prem
  have cells := cells_at T env
  have TT := T
  obtain ⟨nm, qual, params, body, scope, cl, c⟩ := F
  have hcl : cl = [(("__class__" : Str), cc)] := T.cl
  subst hcl
  refine ks_codeAny_call_defAt (binds := ps.zip us) room.depth (kin _ _ hf) rfl nl (PySem.W.codeRec_of kin T.code) rfl bind S.nocell (fun z hz => S.par z.1 (List.of_mem_zip hz).1) (fun h₁ hns k₁ => ?_) S.co S.gen S.kind
  have I : Inv (ncx CX P w K mg base N ⟨nm, qual, params, body, scope, [(("__class__" : Str), cc)], c⟩ f A outer s H E) [] (startF N vs [some (.ref D)]) H { s with heap := h₁, toks := s.toks + (ps.zip us).length } := inv_startN S room.hd env long rel cells hns k₁
  have hbd2 : body = .Assign [.Name y py] (.Call (.Attribute (.Call (.Name "super" p0) [] [] p1) m apos) (e :: es) [] pos) pst :: st := hbd
  subst hbd2
  generalize hF : (⟨nm, qual, params, .Assign [.Name y py] (.Call (.Attribute (.Call (.Name "super" p0) [] [] p1) m apos) (e :: es) [] pos) pst :: st, scope, [(("__class__" : Str), cc)], c⟩ : NF) = F at *
  have W : _root_.PySem.wpAt (model P w) (ncx CX P w K mg base N F f A outer s H E).A (.func F.body (envF F f s.heap.objs.size)) (execs F.body (envF F f s.heap.objs.size))
      (SP (ncx CX P w K mg base N F f A outer s H E) [] { nx := fun _ H' => Q .non H', rt := Q }) (ncx CX P w K mg base N F f A outer s H E).xe { s with heap := h₁, toks := s.toks + (ps.zip us).length } := by
    rw [hbd]
    apply ks_wpAt_execs_cons
    apply ks_wpAt_Assign_Name (hs := hsw _)
    apply PySem.ks_wpAt_mono (eval_super (σ := startF N vs [some (.ref D)]) TT hline (hform _) I hN hσ hx G (room.deeper _) hb2 hp ha (he _) (hpl _) q)
    · intro v s1 hv
      obtain ⟨u, H1, I1, ru, q1⟩ := hv
      apply store_ok I1 S.nd hi (.inl hy) ru (hf := .inr hy)
      intro s2 I2
      exact _root_.PySem.wpAt_of_wpAny (hr.run [] s2 _ H1 _ I2 q1)
    · exact fun _ _ z => z
  subst hF
  refine PySem.ks_wpAt_mono W (fun fl s' hs => ?_) fun _ _ z => z
  · cases fl with
    | ret u =>
      obtain ⟨v, σ2, H2, J, rv, qv⟩ := hs
      exact ⟨v, H2, J.os, J.bare, J.base, J.hok, rv, qv⟩
    | next =>
      obtain ⟨σ2, H2, J, qv⟩ := hs
      exact ⟨.non, H2, J.os, J.bare, J.base, J.hok, rfl, qv⟩
    | brk =>
      obtain ⟨_, _, _, qv⟩ := hs
      exact qv.elim
    | cont =>
      obtain ⟨_, _, _, qv⟩ := hs
      exact qv.elim
/-- super().m() as a value -/
theorem eval_super0 {CX2 : CXT} {k : Nat} {fd : FuncData} {ps : List Str} {sp : Sp} {E : XK} {body : List Stmt} {p0 p1 apos pos : Pos} {s : Shared} {pins : List (Addr × Obj)} {σ : L2.St} {H : Hp} {x dx : Addr} {fs : List (Str × V)} {Q : VK}
    (T : SupTxt P K C D f g cc F m) (hline : (apos.endLine == pos.line) = true)
    (hform : methodCallForm (([] : List Expr).length + ([] : List Keyword).length) (backTo pos (starEach [] (envF F f s0.heap.objs.size))) (backToKw pos (keywordEach [] (envF F f s0.heap.objs.size))) = true)
    (I : Inv (ncx CX P w K mg base N F f A outer s0 H0 E0) pins σ H s) (hN : N[0]? = some ("self" : Str)) (hσ : σ[0]? = some (some (.ref x))) (hx : H x = some (.ins C dx fs))
    (G : FnOk P w K mg base CX2 k g fd ps sp) (hr : Room k (ncx CX P w K mg base N F f A outer s0 H0 E0).A) (hb : Binds K fd ps []) (hp : Passes CX2 (ncx CX P w K mg base N F f A outer s0 H0 E0) E)
    (h : sp [.ref x] H Q E) :
    _root_.PySem.wpAt (model P w) (ncx CX P w K mg base N F f A outer s0 H0 E0).A (.func body (envF F f s0.heap.objs.size))
      (eval (.Call (.Attribute (.Call (.Name "super" p0) [] [] p1) m apos) [] [] pos) (envF F f s0.heap.objs.size)) (EP (ncx CX P w K mg base N F f A outer s0 H0 E0) pins σ Q) (ncx CX P w K mg base N F f A outer s0 H0 E0).xe s := by
  refine at_super T hline hform I hN hσ hx fun q s' J => ?_
  have hq := (J.pin (q, PySem.W.methodObj (.ref g) (.ref x)) (List.mem_append_right _ (List.mem_append_right _ List.mem_cons_self))).1
  apply PySem.W.callWith_of (P := PySem.W.MethP K q g (.ref x)) rfl (PySem.W.keeps_M T.fg)
  apply evalArgs_nil3
  refine ⟨⟨hq, J.kIn⟩, ?_⟩
  refine wpAny_mono (run_bound (us := []) (vs := []) (pins := pins ++ [(q, PySem.W.methodObj (.ref g) (.ref x))]) G hr hb hp J hq .nil h) (fun v s2 hv => ?_) fun _ _ z => z
  obtain ⟨y, H2, J2, ry, qy⟩ := hv
  exact ⟨y, H2, J2.pins_of fun p hp => J2.pin p (List.mem_append_right _ (List.mem_append_left _ hp)), ry, qy⟩
/-- a def super().m(); .. keeps its promise -/
theorem okS_do {CX2 : CXT} {k : Nat} {fd2 : FuncData} {ps ps2 : List Str} {sp sp2 : Sp} {p0 p1 apos pos pst : Pos} {st : List Stmt}
    {oc : Value} {od : Option Addr} {doc pm : Value} {an : Option Addr} {ct : Value} {osl : Array (Option Value)}
    (T : SupTxt P K C D f g cc F m) (hf : K.lookup f = some ⟨oc, od, .func (ksFn F.name F.qual F.params F.body F.scope .none .none doc pm an (.ref F.c) ct cc), osl⟩)
    (S : NScope N ps ["__class__"] F.scope)
    (hbd : F.body = .Expr (.Call (.Attribute (.Call (.Name "super" p0) [] [] p1) m apos) [] [] pos) pst :: st)
    (ar : ∀ vs H Q E, sp vs H Q E → vs.length = ps.length) (hN : N[0]? = some ("self" : Str))
    (G : FnOk P w K mg base CX2 k g fd2 ps2 sp2) (hb2 : Binds K fd2 ps2 [])
    (hline : (apos.endLine == pos.line) = true)
    (hform : ∀ L, methodCallForm (([] : List Expr).length + ([] : List Keyword).length) (backTo pos (starEach [] (envF F f L))) (backToKw pos (keywordEach [] (envF F f L))) = true)
    (hsw : ∀ L, swapsWith (.Call (.Attribute (.Call (.Name "super" p0) [] [] p1) m apos) [] [] pos) none pst.line (envF F f L) = pure false)
    (bd : ∀ (A : Around) (outer : List Env) (s : Shared) (H : Hp) (vs : List V) (Q : VK) (E : XK), Room k (A.deeper (envF F f s.heap.objs.size)) → sp vs H Q E →
      ∃ (x dx : Addr) (fs : List (Str × V)) (E2 : XK) (tr : TS), (startF N vs [some (.ref D)])[0]? = some (some (.ref x)) ∧ H x = some (.ins C dx fs) ∧ Passes CX2 (ncx CX P w K mg base N F f A outer s H E) E2 ∧
        PSs (ncx CX P w K mg base N F f A outer s H E) st tr ∧
        sp2 [.ref x] H (fun _ H2 => tr { nx := fun _ H' => Q .non H', rt := Q } (startF N vs [some (.ref D)]) H2) E2) :
    FnOk P w K mg base CX (k + 1) f (ksFn F.name F.qual F.params F.body F.scope .none .none doc pm an (.ref F.c) ct cc) ps sp := by
  refine ⟨ar, fun A outer s H args us vs Q E room env bind rel prem => ?_⟩
  have kin : K.In s.heap := env.mod.kin.keeps fun b o z => (env.bs b o z).1
  have nl : s.heap.NoLimit := env.mod.nolimit.keeps fun b o z => (env.bs b o z).1
  have long := ar _ _ _ _ prem
  obtain ⟨x, dx, fs, E2, tr, hσ, hx, hp, hr, q⟩ := bd A outer s H vs Q E (room.deeper _) prem
  have cells := cells_at T env
  have TT := T
  obtain ⟨nm, qual, params, body, scope, cl, c⟩ := F
  have hcl : cl = [(("__class__" : Str), cc)] := T.cl
  subst hcl
  refine ks_codeAny_call_defAt (binds := ps.zip us) room.depth (kin _ _ hf) rfl nl (PySem.W.codeRec_of kin T.code) rfl bind S.nocell (fun z hz => S.par z.1 (List.of_mem_zip hz).1) (fun h₁ hns k₁ => ?_) S.co S.gen S.kind
  have I : Inv (ncx CX P w K mg base N ⟨nm, qual, params, body, scope, [(("__class__" : Str), cc)], c⟩ f A outer s H E) [] (startF N vs [some (.ref D)]) H { s with heap := h₁, toks := s.toks + (ps.zip us).length } := inv_startN S room.hd env long rel cells hns k₁
  have hbd2 : body = .Expr (.Call (.Attribute (.Call (.Name "super" p0) [] [] p1) m apos) [] [] pos) pst :: st := hbd
  subst hbd2
  generalize hF : (⟨nm, qual, params, .Expr (.Call (.Attribute (.Call (.Name "super" p0) [] [] p1) m apos) [] [] pos) pst :: st, scope, [(("__class__" : Str), cc)], c⟩ : NF) = F at *
  have W : _root_.PySem.wpAt (model P w) (ncx CX P w K mg base N F f A outer s H E).A (.func F.body (envF F f s.heap.objs.size)) (execs F.body (envF F f s.heap.objs.size))
      (SP (ncx CX P w K mg base N F f A outer s H E) [] { nx := fun _ H' => Q .non H', rt := Q }) (ncx CX P w K mg base N F f A outer s H E).xe { s with heap := h₁, toks := s.toks + (ps.zip us).length } := by
    rw [hbd]
    apply ks_wpAt_execs_cons
    apply ks_wpAt_Expr_any (hi := I.quiet) (hs := hsw _)
    apply PySem.ks_wpAt_mono (eval_super0 (σ := startF N vs [some (.ref D)]) TT hline (hform _) I hN hσ hx G (room.deeper _) hb2 hp q)
    · intro v s1 hv
      obtain ⟨u, H1, I1, ru, q1⟩ := hv
      exact _root_.PySem.wpAt_of_wpAny (hr.run [] s1 _ H1 _ I1 q1)
    · exact fun _ _ z => z
  subst hF
  refine PySem.ks_wpAt_mono W (fun fl s' hs => ?_) fun _ _ z => z
  · cases fl with
    | ret u =>
      obtain ⟨v, σ2, H2, J, rv, qv⟩ := hs
      exact ⟨v, H2, J.os, J.bare, J.base, J.hok, rv, qv⟩
    | next =>
      obtain ⟨σ2, H2, J, qv⟩ := hs
      exact ⟨.non, H2, J.os, J.bare, J.base, J.hok, rfl, qv⟩
    | brk =>
      obtain ⟨_, _, _, qv⟩ := hs
      exact qv.elim
    | cont =>
      obtain ⟨_, _, _, qv⟩ := hs
      exact qv.elim
end
end Gs
/-! Methods that raise. -/
namespace Gx
open PySem PySem.Spec PyProof.Rows L2 Gd
theorem pe_or {X : Cx} {e : Expr} {t u : TE} (a : PE X e t) (b : PE X e u) : PE X e (fun σ H Q => t σ H Q ∨ u σ H Q) := ⟨fun pins s σ H Q I h => h.elim (a.run pins s σ H Q I) (b.run pins s σ H Q I)⟩
/-- a method that may raise -/
structure MetX (P : Program) (w : World) (K : PySem.W.Frag) (mg : Str → Option Value) (base : Heap) (k : Nat) (C : Addr) (m : Str) (sp : Sp) : Prop where
  ex : ∃ (f : Addr) (fd : FuncData) (ps : List Str), Cls K C ∧ Meth K C m f ∧ FnOk P w K mg base (L2.CX P w) k f fd ps sp ∧ Binds K fd ps []
def tMethX (C : Addr) (m : Str) (sp : Sp) (E : L2.St → XK) (ta : TE) (t : TA) : TE := fun σ H Q => ta σ H fun x H1 => ∃ a dx fs, x = .ref a ∧ H1 a = some (.ins C dx fs) ∧ fs.lookup m = none ∧ t σ H1 fun vs H2 => sp (x :: vs) H2 Q (E σ)
section
variable {X : Cx} {k j : Nat} {C : Addr} {m : Str} {sp : Sp} {pos apos : Pos} {e o : Expr} {es : List Expr} {ta : TE} {t : TA}
theorem pe_mtX {W : WX} {pl : Sem Bool} (c : MetX X.prog X.w X.K X.mg X.base k C m sp) (hr : Room j X.A) (hk : k ≤ j) (tk : Takes X W) (he : PE X o ta) (ha : PA X (e :: es) t)
    (hst : starEach (e :: es) X.env = (false, eval e X.env) :: starEach es X.env := by rfl) (hpl : (backTo pos (starEach es X.env)).any (·.1) = false := by rfl)
    (ht : eval (.Call (.Attribute o m apos) (e :: es) [] pos) X.env = (do
      let ov ← eval o X.env
      standAt apos.atName
      let (f, first) ← holding [ov] (getMethod ov m pl)
      callWith pos f first (backTo pos (starEach (e :: es) X.env)) (backToKw pos (keywordEach [] X.env))) := by rfl) :
    PE X (.Call (.Attribute o m apos) (e :: es) [] pos) (tMethX C m sp (WE W) ta t) := by
  obtain ⟨f, fd, ps, hc, hm, F, b⟩ := c.ex
  refine ⟨fun pins s σ H Q I h => ?_⟩
  refine PySem.W.methodCall_KW (pl := pl) (thn (he.run pins s σ H _ I h) fun u s1 ⟨x, H1, I1, rx, a, dx, fs, ex, ea, l, q⟩ => ?_) ht
  subst ex
  obtain rfl : u = Value.ref a := rx
  refine getmeth_ok I1 ea hc hm l ?_
  refine PySem.W.callWith_K (first := [.ref a]) (h₀ := X.base) I.ok.mod.kin hm.kp (thn (ha.run pos pins s1 σ H1 _ I1 q) fun us s2 ⟨vs, H2, I2, r, q2⟩ => ⟨I2.kIn, ?_⟩) hst hpl
  exact run_fnS (us := .ref a :: us) (vs := .ref a :: vs) F (hr.mono hk) b (passAt tk σ) I2 (.cons rfl r) q2
/-- where it raises nothing -/
theorem pe_mtN {pl : Sem Bool} (c : MetX X.prog X.w X.K X.mg X.base k C m sp) (hr : Room j X.A) (hk : k ≤ j) (he : PE X o ta) (ha : PA X (e :: es) t)
    (hst : starEach (e :: es) X.env = (false, eval e X.env) :: starEach es X.env := by rfl) (hpl : (backTo pos (starEach es X.env)).any (·.1) = false := by rfl)
    (ht : eval (.Call (.Attribute o m apos) (e :: es) [] pos) X.env = (do
      let ov ← eval o X.env
      standAt apos.atName
      let (f, first) ← holding [ov] (getMethod ov m pl)
      callWith pos f first (backTo pos (starEach (e :: es) X.env)) (backToKw pos (keywordEach [] X.env))) := by rfl) :
    PE X (.Call (.Attribute o m apos) (e :: es) [] pos) (tMeth C m sp [] E0 ta t) := by
  obtain ⟨f, fd, ps, hc, hm, F, b⟩ := c.ex
  exact pe_meth (pl := pl) he hc hm F (hr.mono hk) b .nil passL ha hst hpl ht
end
end Gx
set_option maxHeartbeats 1000000
namespace K6
open PySem PySem.Spec PyProof.Rows L2 Gd
open C8 (clsBody Met pe_mt pe_mt0)
def topS (i : Nat) : Stmt := PySem.Challenge.pw_makeskept_k06_trees_grown.main.body.getD i (.Pass ⟨0, 0, 0, 0⟩)
abbrev s__wall : Stmt := topS 0
abbrev s_is_whole : Stmt := topS 6
abbrev s__law_cell : Stmt := topS 13
abbrev s__law_box : Stmt := topS 14
abbrev s__law_take : Stmt := topS 15
abbrev s__law_pick : Stmt := topS 16
abbrev s__law_tree : Stmt := topS 17
abbrev s__law_line : Stmt := topS 18
abbrev s__law_make_right : Stmt := topS 19
abbrev s__law_grown : Stmt := topS 20
abbrev s__law_all_right : Stmt := topS 21
abbrev s_law : Stmt := topS 22
abbrev s_NoMake___init__ : Stmt := (clsBody (topS 3)).getD 0 (.Pass ⟨0, 0, 0, 0⟩)
abbrev s_TooMany___init__ : Stmt := (clsBody (topS 4)).getD 0 (.Pass ⟨0, 0, 0, 0⟩)
abbrev s_MakeTree___init__ : Stmt := (clsBody (topS 9)).getD 0 (.Pass ⟨0, 0, 0, 0⟩)
abbrev s_MakeTree_many : Stmt := (clsBody (topS 9)).getD 1 (.Pass ⟨0, 0, 0, 0⟩)
abbrev s_MakeTree_grow : Stmt := (clsBody (topS 9)).getD 2 (.Pass ⟨0, 0, 0, 0⟩)
abbrev s_MakeTree_own : Stmt := (clsBody (topS 9)).getD 3 (.Pass ⟨0, 0, 0, 0⟩)
abbrev s_MakeTree_depth : Stmt := (clsBody (topS 9)).getD 4 (.Pass ⟨0, 0, 0, 0⟩)
abbrev s_MakeTree_on : Stmt := (clsBody (topS 9)).getD 5 (.Pass ⟨0, 0, 0, 0⟩)
abbrev s_MakeTree_line : Stmt := (clsBody (topS 9)).getD 6 (.Pass ⟨0, 0, 0, 0⟩)
abbrev s_MakeTree_up : Stmt := (clsBody (topS 9)).getD 7 (.Pass ⟨0, 0, 0, 0⟩)
abbrev s_MakeTree_nearest : Stmt := (clsBody (topS 9)).getD 8 (.Pass ⟨0, 0, 0, 0⟩)
abbrev s_MakeTree_way : Stmt := (clsBody (topS 9)).getD 9 (.Pass ⟨0, 0, 0, 0⟩)
abbrev s_MakeTree_apart : Stmt := (clsBody (topS 9)).getD 10 (.Pass ⟨0, 0, 0, 0⟩)
abbrev s_MakeTree_copied : Stmt := (clsBody (topS 9)).getD 11 (.Pass ⟨0, 0, 0, 0⟩)
abbrev s_MakeTree__grown_alike : Stmt := (clsBody (topS 9)).getD 12 (.Pass ⟨0, 0, 0, 0⟩)
abbrev s_MakeTree__need_make : Stmt := (clsBody (topS 9)).getD 13 (.Pass ⟨0, 0, 0, 0⟩)
abbrev s_MakeTree__need_steps : Stmt := (clsBody (topS 9)).getD 14 (.Pass ⟨0, 0, 0, 0⟩)
abbrev s_LeapTree___init__ : Stmt := (clsBody (topS 11)).getD 0 (.Pass ⟨0, 0, 0, 0⟩)
abbrev s_LeapTree_grow : Stmt := (clsBody (topS 11)).getD 1 (.Pass ⟨0, 0, 0, 0⟩)
abbrev s_LeapTree_leaps : Stmt := (clsBody (topS 11)).getD 2 (.Pass ⟨0, 0, 0, 0⟩)
abbrev s_LeapTree_leap_way : Stmt := (clsBody (topS 11)).getD 3 (.Pass ⟨0, 0, 0, 0⟩)
abbrev s_LeapTree_copied : Stmt := (clsBody (topS 11)).getD 4 (.Pass ⟨0, 0, 0, 0⟩)
abbrev s_LeapTree__leaps_through : Stmt := (clsBody (topS 11)).getD 5 (.Pass ⟨0, 0, 0, 0⟩)
theorem sc_MakeTree___init__ : FnScope ["self"] ["self"] (defScope s_MakeTree___init__) := ⟨rfl, rfl, rfl, by decide +kernel, rfl, by decide +kernel, by decide +kernel⟩
theorem sc_MakeTree_many : FnScope ["self"] ["self"] (defScope s_MakeTree_many) := ⟨rfl, rfl, rfl, by decide +kernel, rfl, by decide +kernel, by decide +kernel⟩
theorem sc_MakeTree_grow : FnScope ["self", "make", "number"] ["self", "make"] (defScope s_MakeTree_grow) := ⟨rfl, rfl, rfl, by decide +kernel, rfl, by decide +kernel, by decide +kernel⟩
theorem sc_MakeTree_own : FnScope ["self", "make"] ["self", "make"] (defScope s_MakeTree_own) := ⟨rfl, rfl, rfl, by decide +kernel, rfl, by decide +kernel, by decide +kernel⟩
theorem sc_MakeTree_depth : FnScope ["self", "make"] ["self", "make"] (defScope s_MakeTree_depth) := ⟨rfl, rfl, rfl, by decide +kernel, rfl, by decide +kernel, by decide +kernel⟩
theorem sc_MakeTree_on : FnScope ["self", "make"] ["self", "make"] (defScope s_MakeTree_on) := ⟨rfl, rfl, rfl, by decide +kernel, rfl, by decide +kernel, by decide +kernel⟩
theorem sc_MakeTree_line : FnScope ["self", "make"] ["self", "make"] (defScope s_MakeTree_line) := ⟨rfl, rfl, rfl, by decide +kernel, rfl, by decide +kernel, by decide +kernel⟩
theorem sc_MakeTree_up : FnScope ["self", "make", "steps"] ["self", "make", "steps"] (defScope s_MakeTree_up) := ⟨rfl, rfl, rfl, by decide +kernel, rfl, by decide +kernel, by decide +kernel⟩
theorem sc_MakeTree_nearest : FnScope ["self", "one", "other"] ["self", "one", "other"] (defScope s_MakeTree_nearest) := ⟨rfl, rfl, rfl, by decide +kernel, rfl, by decide +kernel, by decide +kernel⟩
theorem sc_MakeTree_way : FnScope ["self", "one", "other"] ["self", "one", "other"] (defScope s_MakeTree_way) := ⟨rfl, rfl, rfl, by decide +kernel, rfl, by decide +kernel, by decide +kernel⟩
theorem sc_MakeTree_apart : FnScope ["self", "one", "other"] ["self", "one", "other"] (defScope s_MakeTree_apart) := ⟨rfl, rfl, rfl, by decide +kernel, rfl, by decide +kernel, by decide +kernel⟩
theorem sc_MakeTree_copied : FnScope ["self"] ["self"] (defScope s_MakeTree_copied) := ⟨rfl, rfl, rfl, by decide +kernel, rfl, by decide +kernel, by decide +kernel⟩
theorem sc_MakeTree__grown_alike : FnScope ["self", "other", "own"] ["self", "other"] (defScope s_MakeTree__grown_alike) := ⟨rfl, rfl, rfl, by decide +kernel, rfl, by decide +kernel, by decide +kernel⟩
theorem sc_MakeTree__need_make : FnScope ["self", "make"] ["self", "make"] (defScope s_MakeTree__need_make) := ⟨rfl, rfl, rfl, by decide +kernel, rfl, by decide +kernel, by decide +kernel⟩
theorem sc_MakeTree__need_steps : FnScope ["self", "make", "steps"] ["self", "make", "steps"] (defScope s_MakeTree__need_steps) := ⟨rfl, rfl, rfl, by decide +kernel, rfl, by decide +kernel, by decide +kernel⟩
theorem sc_LeapTree_leaps : FnScope ["self", "make"] ["self", "make"] (defScope s_LeapTree_leaps) := ⟨rfl, rfl, rfl, by decide +kernel, rfl, by decide +kernel, by decide +kernel⟩
theorem sc_LeapTree_leap_way : FnScope ["self", "make", "steps"] ["self", "make", "steps"] (defScope s_LeapTree_leap_way) := ⟨rfl, rfl, rfl, by decide +kernel, rfl, by decide +kernel, by decide +kernel⟩
theorem sc_LeapTree_copied : FnScope ["self"] ["self"] (defScope s_LeapTree_copied) := ⟨rfl, rfl, rfl, by decide +kernel, rfl, by decide +kernel, by decide +kernel⟩
theorem sc_LeapTree__leaps_through : FnScope ["self", "own", "leaps"] ["self", "own"] (defScope s_LeapTree__leaps_through) := ⟨rfl, rfl, rfl, by decide +kernel, rfl, by decide +kernel, by decide +kernel⟩
theorem sc__wall : FnScope ["k"] ["k"] (defScope s__wall) := ⟨rfl, rfl, rfl, by decide +kernel, rfl, by decide +kernel, by decide +kernel⟩
theorem sc_is_whole : FnScope ["thing", "low", "high"] ["thing", "low", "high"] (defScope s_is_whole) := ⟨rfl, rfl, rfl, by decide +kernel, rfl, by decide +kernel, by decide +kernel⟩
theorem sc__law_cell : FnScope ["_law_script", "_law_k"] ["_law_script", "_law_k"] (defScope s__law_cell) := ⟨rfl, rfl, rfl, by decide +kernel, rfl, by decide +kernel, by decide +kernel⟩
theorem sc__law_box : FnScope ["_law_cell_here"] ["_law_cell_here"] (defScope s__law_box) := ⟨rfl, rfl, rfl, by decide +kernel, rfl, by decide +kernel, by decide +kernel⟩
theorem sc__law_take : FnScope ["_law_box_here", "_law_many", "_law_digit", "_law_number"] ["_law_box_here", "_law_many"] (defScope s__law_take) := ⟨rfl, rfl, rfl, by decide +kernel, rfl, by decide +kernel, by decide +kernel⟩
theorem sc__law_pick : FnScope ["_law_box_here", "_law_many", "_law_way"] ["_law_box_here", "_law_many"] (defScope s__law_pick) := ⟨rfl, rfl, rfl, by decide +kernel, rfl, by decide +kernel, by decide +kernel⟩
theorem sc__law_tree : FnScope ["_law_kind"] ["_law_kind"] (defScope s__law_tree) := ⟨rfl, rfl, rfl, by decide +kernel, rfl, by decide +kernel, by decide +kernel⟩
theorem sc__law_line : FnScope ["_law_owners", "_law_make", "_law_found"] ["_law_owners", "_law_make"] (defScope s__law_line) := ⟨rfl, rfl, rfl, by decide +kernel, rfl, by decide +kernel, by decide +kernel⟩
theorem sc__law_make_right : FnScope ["_law_tree_here", "_law_owners", "_law_make", "_law_due", "_law_turn", "_law_found", "_law_number"] ["_law_tree_here", "_law_owners", "_law_make"] (defScope s__law_make_right) := ⟨rfl, rfl, rfl, by decide +kernel, rfl, by decide +kernel, by decide +kernel⟩
theorem sc__law_grown : FnScope ["_law_box_here", "_law_tree_here", "_law_owners", "_law_make", "_law_count", "e"] ["_law_box_here", "_law_tree_here", "_law_owners"] (defScope s__law_grown) := ⟨rfl, rfl, rfl, by decide +kernel, rfl, by decide +kernel, by decide +kernel⟩
theorem sc__law_all_right : FnScope ["_law_tree_here", "_law_owners", "_law_make"] ["_law_tree_here", "_law_owners"] (defScope s__law_all_right) := ⟨rfl, rfl, rfl, by decide +kernel, rfl, by decide +kernel, by decide +kernel⟩
theorem sc_law : FnScope ["_law_script", "_law_box_here", "_law_pair", "_law_at", "_law_k", "_law_tree_here", "_law_owners", "_law_turn"] ["_law_script"] (defScope s_law) := ⟨rfl, rfl, rfl, by decide +kernel, rfl, by decide +kernel, by decide +kernel⟩
structure Txt (K : PySem.W.Frag) (mg : Str → Option Value) : Prop where
  b_len : mg "len" = none
  b_max : mg "max" = none
  b_min : mg "min" = none
  b_range : mg "range" = none
  b_repr : mg "repr" = none
  b_zip : mg "zip" = none
  b_isinstance : mg "isinstance" = none
  t_int : mg "int" = none
  t_bool : mg "bool" = none
  t_list : mg "list" = none
  g_MOST_MAKES : GInt mg "MOST_MAKES" 64
/-- a class of trees -/
structure TreeC (K : PySem.W.Frag) (C : Addr) : Prop where
  cl : Cls K C
  n_owns : NoAttr K C "_owns"
  n_depths : NoAttr K C "_depths"
  n_on : NoAttr K C "_on"
  n_leaps : NoAttr K C "_leaps"
def fields : List Str := ["_owns", "_depths", "_on", "_leaps"]
def num (j : Nat) : V := .int (j : Nat)
/-! the line of a make -/
def par (ow : List Nat) (i : Nat) : Nat := ow.getD (i - 1) 0
def Low (ow : List Nat) : Prop := ∀ (i j : Nat), ow[i]? = some j → j ≤ i
theorem par_lt {ow : List Nat} (h : Low ow) {i : Nat} (hi : 0 < i) : par ow i < i := by
  unfold par
  rw [List.getD_eq_getElem?_getD]
  cases e : ow[i - 1]? with
  | none =>
    show 0 < i
    exact hi
  | some j =>
    have := h _ _ e
    show j < i
    omega
def lineN (ow : List Nat) : Nat → Nat → List Nat
  | 0, i => [i]
  | f + 1, i => if i = 0 then [0] else lineN ow f (par ow i) ++ [i]
def line (ow : List Nat) (i : Nat) : List Nat := lineN ow i i
theorem lineN_more {ow : List Nat} (h : Low ow) : ∀ (f i : Nat), i ≤ f → lineN ow f i = lineN ow i i := by
  intro f
  induction f using Nat.strongRecOn with
  | _ f ih =>
    intro i hi
    cases f with
    | zero =>
      have e : i = 0 := by omega
      rw [e]
    | succ f =>
      cases i with
      | zero => rfl
      | succ i =>
        have hp := par_lt h (i := i + 1) (by omega)
        show (if i + 1 = 0 then [0] else lineN ow f (par ow (i + 1)) ++ [i + 1]) = (if i + 1 = 0 then [0] else lineN ow i (par ow (i + 1)) ++ [i + 1])
        rw [if_neg (by omega), if_neg (by omega), ih f (by omega) _ (by omega)]
        by_cases e : i < f + 1
        · rw [ih i (by omega) _ (by omega)]
        · omega
theorem line_step {ow : List Nat} (h : Low ow) {i : Nat} (hi : 0 < i) : line ow i = line ow (par ow i) ++ [i] := by
  obtain ⟨j, rfl⟩ : ∃ j, i = j + 1 := ⟨i - 1, by omega⟩
  have hp := par_lt h hi
  show (if j + 1 = 0 then [0] else lineN ow j (par ow (j + 1)) ++ [j + 1]) = _
  rw [if_neg (by omega), lineN_more h j _ (by omega)]
  rfl
theorem line_zero (ow : List Nat) : line ow 0 = [0] := rfl
theorem line_le {ow : List Nat} (h : Low ow) : ∀ (i : Nat), ∀ x ∈ line ow i, x ≤ i := by
  intro i
  induction i using Nat.strongRecOn with
  | _ i ih =>
    intro x hx
    by_cases h0 : 0 < i
    · rw [line_step h h0] at hx
      rcases List.mem_append.mp hx with hx | hx
      · have := ih _ (par_lt h h0) x hx
        have := par_lt h h0
        omega
      · rw [List.mem_singleton.mp hx]
        exact Nat.le_refl _
    · have e : i = 0 := by omega
      subst e
      rw [line_zero] at hx
      rw [List.mem_singleton.mp hx]
      exact Nat.le_refl _
theorem line_len {ow : List Nat} (h : Low ow) : ∀ i : Nat, (line ow i).length ≤ i + 1 := by
  intro i
  induction i using Nat.strongRecOn with
  | _ i ih =>
    by_cases h0 : 0 < i
    · rw [line_step h h0, List.length_append]
      have := ih _ (par_lt h h0)
      have := par_lt h h0
      show _ + 1 ≤ i + 1
      omega
    · have e : i = 0 := by omega
      subst e
      exact Nat.le_refl 1
/-- the last make that stands at the same place of both -/
def nearL (xs ys : List Nat) : Nat := (xs.zip ys).foldl (fun a p => if p.1 = p.2 then p.1 else a) 0
theorem near_snoc {xs ys : List Nat} {a : Nat} (h : a ∉ ys) : nearL (xs ++ [a]) ys = nearL xs ys := by
  have hz : (xs ++ [a]).zip ys = xs.zip ys ++ (match ys[xs.length]? with | some b => [(a, b)] | none => []) := by
    induction xs generalizing ys with
    | nil =>
      cases ys with
      | nil => rfl
      | cons y r => simp
    | cons x r ih =>
      cases ys with
      | nil => simp
      | cons y s =>
        have := ih (ys := s) (fun z => h (List.mem_cons_of_mem _ z))
        simp [this]
  unfold nearL
  rw [hz, List.foldl_append]
  cases e : ys[xs.length]? with
  | none => rfl
  | some b =>
    have hb : b ∈ ys := List.mem_of_getElem? e
    show (if a = b then a else _) = _
    have hab : a ≠ b := fun q => h (by rw [q]; exact hb)
    rw [if_neg hab]
theorem near_comm (xs ys : List Nat) : nearL xs ys = nearL ys xs := by
  unfold nearL
  have : ∀ (xs ys : List Nat) (c : Nat), (xs.zip ys).foldl (fun a p => if p.1 = p.2 then p.1 else a) c = (ys.zip xs).foldl (fun a p => if p.1 = p.2 then p.1 else a) c := by
    intro xs
    induction xs with
    | nil =>
      intro ys c
      simp
    | cons x r ih =>
      intro ys c
      cases ys with
      | nil => simp
      | cons y s =>
        simp only [List.zip_cons_cons, List.foldl_cons]
        rw [ih]
        by_cases e : x = y
        · rw [e]
        · rw [if_neg e, if_neg (fun q => e q.symm)]
  exact this xs ys 0
theorem near_self {ow : List Nat} (h : Low ow) (i : Nat) : nearL (line ow i) (line ow i) = i := by
  have all : ∀ (xs : List Nat) (c a : Nat), ((xs ++ [a]).zip (xs ++ [a])).foldl (fun a p => if p.1 = p.2 then p.1 else a) c = a := by
    intro xs
    induction xs with
    | nil =>
      intro c a
      simp
    | cons x r ih =>
      intro c a
      simp only [List.cons_append, List.zip_cons_cons, List.foldl_cons]
      exact ih _ a
  by_cases h0 : 0 < i
  · rw [line_step h h0]
    exact all _ 0 i
  · have e : i = 0 := by omega
    subst e
    rfl
theorem near_left {ow : List Nat} (h : Low ow) {i j : Nat} (hij : j < i) : nearL (line ow (par ow i)) (line ow j) = nearL (line ow i) (line ow j) := by
  rw [line_step h (by omega : 0 < i), near_snoc]
  intro hm
  have := line_le h j i hm
  omega
theorem near_right {ow : List Nat} (h : Low ow) {i j : Nat} (hij : i < j) : nearL (line ow i) (line ow (par ow j)) = nearL (line ow i) (line ow j) := by
  rw [near_comm, near_left h hij, near_comm]
theorem line_last {ow : List Nat} (h : Low ow) (i : Nat) : ∃ us, line ow i = us ++ [i] ∧ i ∉ us := by
  by_cases h0 : 0 < i
  · refine ⟨line ow (par ow i), line_step h h0, fun hm => ?_⟩
    have := line_le h _ _ hm
    have := par_lt h h0
    omega
  · have e : i = 0 := by omega
    subst e
    exact ⟨[], rfl, fun z => nomatch z⟩
theorem line_pre {ow : List Nat} (h : Low ow) : ∀ (i x : Nat), x ∈ line ow i → ∃ r, line ow i = line ow x ++ r := by
  intro i
  induction i using Nat.strongRecOn with
  | _ i ih =>
    intro x hx
    by_cases e : x = i
    · exact ⟨[], by rw [e, List.append_nil]⟩
    · by_cases h0 : 0 < i
      · rw [line_step h h0] at hx ⊢
        rcases List.mem_append.mp hx with hx | hx
        · obtain ⟨r, hr⟩ := ih _ (par_lt h h0) x hx
          exact ⟨r ++ [i], by rw [hr, List.append_assoc]⟩
        · exact absurd (List.mem_singleton.mp hx) e
      · have e0 : i = 0 := by omega
        subst e0
        rw [line_zero] at hx
        exact absurd (List.mem_singleton.mp hx) e
theorem zero_mem {ow : List Nat} (h : Low ow) : ∀ i : Nat, 0 ∈ line ow i := by
  intro i
  induction i using Nat.strongRecOn with
  | _ i ih =>
    by_cases h0 : 0 < i
    · rw [line_step h h0]
      exact List.mem_append_left _ (ih _ (par_lt h h0))
    · have e : i = 0 := by omega
      subst e
      exact List.mem_cons_self
/-- where a make stands on a line: at its depth, and not ahead -/
theorem line_index {ow : List Nat} (h : Low ow) {i x : Nat} (hx : x ∈ line ow i) : ∃ us r, line ow i = us ++ x :: r ∧ us.length = (line ow x).length - 1 ∧ x ∉ us := by
  obtain ⟨r, hr⟩ := line_pre h i x hx
  obtain ⟨us, hu, hn⟩ := line_last h x
  refine ⟨us, r, ?_, ?_, hn⟩
  · rw [hr, hu, List.append_assoc]
    rfl
  · rw [hu, List.length_append]
    show us.length = us.length + 1 - 1
    omega
/-- how deep each make stands -/
def depths (ow : List Nat) : List Nat := (List.range (ow.length + 1)).map fun i => (line ow i).length - 1
theorem depths_at {ow : List Nat} {i : Nat} (h : i ≤ ow.length) : atI ((depths ow).map num) ((i : Nat) : Int) = some (num ((line ow i).length - 1)) := by
  refine atI_nat ?_
  unfold depths
  rw [List.map_map, List.getElem?_map, List.getElem?_range (by omega)]
  rfl
theorem par_more {ow : List Nat} {k x : Nat} (hx : 0 < x) (h : x ≤ ow.length) : par (ow ++ [k]) x = par ow x := by
  unfold par
  rw [List.getD_eq_getElem?_getD, List.getD_eq_getElem?_getD, List.getElem?_append_left (by omega)]
theorem low_more {ow : List Nat} (h : Low ow) {k : Nat} (hk : k ≤ ow.length) : Low (ow ++ [k]) := by
  intro i j e
  by_cases hi : i < ow.length
  · rw [List.getElem?_append_left hi] at e
    exact h i j e
  · rw [List.getElem?_append_right (by omega)] at e
    by_cases h0 : i - ow.length = 0
    · rw [h0] at e
      have : k = j := Option.some.inj e
      omega
    · rw [List.getElem?_eq_none (by show 1 ≤ _; omega)] at e
      cases e
theorem line_more {ow : List Nat} (h : Low ow) {k : Nat} (hk : k ≤ ow.length) : ∀ x : Nat, x ≤ ow.length → line (ow ++ [k]) x = line ow x := by
  intro x
  induction x using Nat.strongRecOn with
  | _ x ih =>
    intro hx
    by_cases h0 : 0 < x
    · have := par_lt h h0
      rw [line_step (low_more h hk) h0, line_step h h0, par_more h0 hx, ih _ this (by omega)]
    · have e : x = 0 := by omega
      subst e
      rfl
theorem line_new {ow : List Nat} (h : Low ow) {k : Nat} (hk : k ≤ ow.length) : line (ow ++ [k]) (ow.length + 1) = line ow k ++ [ow.length + 1] := by
  have hp : par (ow ++ [k]) (ow.length + 1) = k := by
    unfold par
    rw [List.getD_eq_getElem?_getD, Nat.add_sub_cancel, List.getElem?_append_right (Nat.le_refl _), Nat.sub_self]
    rfl
  rw [line_step (low_more h hk) (by omega), hp, line_more h hk _ hk]
theorem depths_more {ow : List Nat} (h : Low ow) {k : Nat} (hk : k ≤ ow.length) : depths (ow ++ [k]) = depths ow ++ [(line ow k).length] := by
  unfold depths
  rw [List.length_append, show ow.length + [k].length + 1 = (ow.length + 1) + 1 from rfl, List.range_succ, List.map_append]
  congr 1
  · refine List.map_congr_left fun x hx => ?_
    rw [line_more h hk x (by have := List.mem_range.mp hx; omega)]
  · show [(line (ow ++ [k]) (ow.length + 1)).length - 1] = _
    rw [line_new h hk, List.length_append]
    rfl
theorem cut_from (xs : List V) (k : Nat) : cutV xs (some (k : Int)) none = xs.drop k := by
  unfold cutV
  rw [HT.sIx_nat, HT.sIx_none]
  by_cases h : k ≤ xs.length
  · rw [Nat.min_eq_left h]
    have := List.take_length (l := xs.drop k)
    rw [List.length_drop] at this
    exact this
  · rw [Nat.min_eq_right (by omega), List.drop_eq_nil_of_le (by omega : xs.length ≤ k), List.drop_length]
    exact List.take_nil
/-- a tree of the class C at t: the own makes of 1, 2, .. and how deep each stands -/
structure Tr (H : Hp) (t C : Addr) (ow ds : List Nat) : Prop where
  ex : ∃ (dx o d n : Addr) (fs : List (Str × V)), H t = some (.ins C dx fs) ∧ fs.lookup ("_owns" : Str) = some (.ref o) ∧ fs.lookup ("_depths" : Str) = some (.ref d) ∧ fs.lookup ("_on" : Str) = some (.ref n) ∧
    (∀ m, m ∉ fields → fs.lookup m = none) ∧ H o = some (.lst (.non :: ow.map num)) ∧ H d = some (.lst (ds.map num)) ∧ fs.length < 1000
  low : ∀ (i j : Nat), ow[i]? = some j → j ≤ i
  few : ow.length ≤ 63
  deep : ds = depths ow
section
variable {P : Program} {w : World} {K : PySem.W.Frag} {mg : Str → Option Value} {base : Heap} {C : Addr}
/-- a method of the class at C, by its name and its place in the text -/
structure MAt (K : PySem.W.Frag) (C : Addr) (m qual : Str) (st : Stmt) (ps : List Str) : Prop where
  ex : ∃ (f : Addr) (fd : FuncData), Fun K m qual st f fd ∧ Meth K C m f ∧ Binds K fd ps []
theorem MAt.met {m qual : Str} {st : Stmt} {N ps : List Str} {k : Nat} {sp : Sp} (M : MAt K C m qual st ps) (cl : Cls K C) (S : FnScope N ps (defScope st))
    (ar : ∀ vs H Q E, sp vs H Q E → vs.length = ps.length)
    (bd : ∀ (f : Addr) (cdv : Value) (A : Around) (outer : List Env) (s : Shared) (H : Hp) (vs : List V) (Q : VK) (E : XK), Room k (A.deeper (envOfC qual (defScope st) s.heap.objs.size f cdv)) → sp vs H Q E →
      ∃ t, PSs (cxOf CX0 P w K mg base N qual (defScope st) f cdv A outer s H E).nox (defBody st) t ∧ t { nx := fun _ H' => Q .non H', rt := Q } (start N vs) H) : Met P w K mg base (k + 1) C m sp [] := by
  obtain ⟨f, fd, F, me, b⟩ := M.ex
  exact ⟨f, fd, ps, [], cl, me, F.ok S ar (bd f), b, .nil⟩
def spMany (C : Addr) : Sp := fun vs H Q _ => ∃ (t : Addr) (ow ds : List Nat), vs = [.ref t] ∧ Tr H t C ow ds ∧ Q (.int ((ow.length + 1 : Nat) : Int)) H
theorem ok_many (T : Txt K mg) (TC : TreeC K C) (M : MAt K C "many" "MakeTree.many" s_MakeTree_many ["self"]) : Met P w K mg base 1 C "many" (spMany C) [] := by
  refine M.met TC.cl sc_MakeTree_many (fun vs H Q E h => ?_) (fun f cdv A outer s H vs Q E hr h => ?_)
  · obtain ⟨t, ow, ds, rfl, _⟩ := h
    rfl
  · obtain ⟨t, ow, ds, rfl, tr, q⟩ := h
    obtain ⟨dx, o, d, n, fs, e1, l1, l2, l3, lo, e2, e3, lf⟩ := tr.ex
    refine ⟨_, (pss_one (ps_ret (pe_callB call_len (by rfl) T.b_len boot_len_ (pa_cons (pe_fld (pv 0) rfl) pa_nil)))), ?_⟩
    refine ⟨_, rfl, t, C, dx, fs, .ref o, rfl, e1, TC.cl, TC.n_owns, l1, .ref o, (V.non :: ow.map num).length, rfl, .inl ⟨_, SqL.of e2, rfl⟩, ?_⟩
    have e : (V.non :: ow.map num).length = ow.length + 1 := by rw [List.length_cons, List.length_map]
    rw [e]
    exact q
def spWhI : Sp := fun vs H Q _ => ∃ n lo hi : Int, vs = [.int n, .int lo, .int hi] ∧ lo ≤ n ∧ n ≤ hi ∧ Q (.bl true) H
theorem ok_whI (T : Txt K mg) (D : DefAt K mg "is_whole" s_is_whole ["thing", "low", "high"]) : C8.Cal P w K mg base 1 "is_whole" spWhI [] := by
  obtain ⟨f, fd, F, m, b⟩ := D.ex
  refine ⟨f, fd, _, [], F.ok sc_is_whole (fun vs H Q E h => ?_) (fun cdv A outer s H vs Q E hr h => ?_), m, F.kp, b, .nil⟩
  · obtain ⟨n, lo, hi, rfl, _⟩ := h
    rfl
  · obtain ⟨n, lo, hi, rfl, h1, h2, q⟩ := h
    refine ⟨_, (pss_one (ps_ret (pe_and (pe_callB call_isi (by rfl) T.b_isinstance boot_isinstance_ (pa_cons (pv 0) (pa_cons (pe_bltn (v := .ty "int") (by rfl) T.t_int boot_int_ rfl) pa_nil))) (pe_and (pe_not (pe_callB call_isi (by rfl) T.b_isinstance boot_isinstance_ (pa_cons (pv 0) (pa_cons (pe_bltn (v := .ty "bool") (by rfl) T.t_bool boot_bool_ rfl) pa_nil)))) (pe_one (pe_chain op_le op_le (pv 1) (pv 0) (pv 2))))))), ?_⟩
    have ty := tyD (K := K) (H := H) (D1.dp (Dp.int n))
    refine ⟨_, rfl, .int n, .ty "int", _, .type "int", _, rfl, .ty _, ty, kInt (.int n), _, rfl, ?_⟩
    refine iteT ?_
    refine ⟨_, rfl, _, .ty "bool", _, .type "bool", _, rfl, .ty _, ty, kBool _, _, rfl, _, rfl, ?_⟩
    refine iteT ?_
    refine ⟨_, rfl, _, rfl, _, _, rfl, rfl, _, rfl, ?_⟩
    rw [decide_eq_true h1]
    refine iteT ⟨_, rfl, _, _, rfl, rfl, ?_⟩
    show Q (.bl (decide (n ≤ hi))) H
    rw [decide_eq_true h2]
    exact q
def spNeed (C : Addr) : Sp := fun vs H Q _ => ∃ (t : Addr) (ow ds : List Nat) (i : Nat), vs = [.ref t, num i] ∧ Tr H t C ow ds ∧ i ≤ ow.length ∧ Q .non H
theorem ok_need (T : Txt K mg) (TC : TreeC K C) (c_is_whole : C8.Cal P w K mg base 1 "is_whole" spWhI []) (m_many : Met P w K mg base 1 C "many" (spMany C) []) (M : MAt K C "_need_make" "MakeTree._need_make" s_MakeTree__need_make ["self", "make"]) :
    Met P w K mg base 2 C "_need_make" (spNeed C) [] := by
  refine M.met TC.cl sc_MakeTree__need_make (fun vs H Q E h => ?_) (fun f cdv A outer s H vs Q E hr h => ?_)
  · obtain ⟨t, ow, ds, i, rfl, _⟩ := h
    rfl
  · obtain ⟨t, ow, ds, i, rfl, tr, hi, q⟩ := h
    obtain ⟨dx, o, d, n, fs, e1, l1, l2, l3, lo, e2, e3, lf⟩ := tr.ex
    refine ⟨_, (pss_one (ps_if (pt_not (pt_val (C8.pe_c c_is_whole hr (by decide) (by rfl) (pa_cons (pv 1) (pa_cons pe_int (pa_cons (pe_op op_sub (pe_mt0 m_many hr (by decide) (pv 0)) pe_int) pa_nil))))))
          (pss_one ps_never) pss_nil)), ?_⟩
    have nl := lo
    refine ⟨_, rfl, _, rfl, t, dx, fs, rfl, e1, nl _ (by decide), t, ow, ds, rfl, tr, _, _, rfl, rfl, ?_⟩
    refine ⟨(i : Nat), 0, ((ow.length + 1 : Nat) : Int) - 1, rfl, by omega, by omega, ?_⟩
    exact ⟨_, rfl, iteF q⟩
theorem at_own {ow : List Nat} {i : Nat} (h0 : 0 < i) (h1 : i ≤ ow.length) : atI (V.non :: ow.map num) ((i : Nat) : Int) = some (num (par ow i)) := by
  refine atI_nat ?_
  obtain ⟨j, rfl⟩ : ∃ j, i = j + 1 := ⟨i - 1, by omega⟩
  rw [List.getElem?_cons_succ, List.getElem?_map]
  have hj : j < ow.length := by omega
  unfold par
  rw [List.getD_eq_getElem?_getD, Nat.add_sub_cancel, List.getElem?_eq_getElem hj]
  rfl
theorem none_of {H H' : Hp} {p : Addr} (sm : Same H H') (h : H' p = none) : H p = none := by
  cases z : H p with
  | none => rfl
  | some u =>
    have z2 := sm _ _ z
    rw [h] at z2
    cases z2
theorem near_mem (xs ys : List Nat) : nearL xs ys = 0 ∨ nearL xs ys ∈ xs := by
  unfold nearL
  have all : ∀ (xs ys : List Nat) (c : Nat), (xs.zip ys).foldl (fun a p => if p.1 = p.2 then p.1 else a) c = c ∨ (xs.zip ys).foldl (fun a p => if p.1 = p.2 then p.1 else a) c ∈ xs := by
    intro xs
    induction xs with
    | nil =>
      intro ys c
      exact .inl (by simp)
    | cons x r ih =>
      intro ys c
      cases ys with
      | nil => exact .inl (by simp)
      | cons y s =>
        simp only [List.zip_cons_cons, List.foldl_cons]
        by_cases e : x = y
        · rw [if_pos e]
          rcases ih s x with h | h
          · exact .inr (by rw [h]; exact List.mem_cons_self)
          · exact .inr (List.mem_cons_of_mem _ h)
        · rw [if_neg e]
          rcases ih s c with h | h
          · exact .inl h
          · exact .inr (List.mem_cons_of_mem _ h)
  exact all xs ys 0
theorem near_on {ow : List Nat} (h : Low ow) (i j : Nat) : nearL (line ow i) (line ow j) ∈ line ow i := by
  rcases near_mem (line ow i) (line ow j) with e | e
  · rw [e]
    exact zero_mem h i
  · exact e
theorem near_on2 {ow : List Nat} (h : Low ow) (i j : Nat) : nearL (line ow i) (line ow j) ∈ line ow j := by
  rw [near_comm]
  exact near_on h j i
theorem near_le {ow : List Nat} (h : Low ow) (i j : Nat) : nearL (line ow i) (line ow j) ≤ i := by
  rcases near_mem (line ow i) (line ow j) with e | e
  · omega
  · exact line_le h i _ e
theorem Tr.same {H H' : Hp} {t C : Addr} {ow ds : List Nat} (tr : Tr H t C ow ds) (sm : Same H H') : Tr H' t C ow ds := by
  obtain ⟨dx, o, d, n, fs, e1, l1, l2, l3, nl, e2, e3, lf⟩ := tr.ex
  exact ⟨⟨dx, o, d, n, fs, sm _ _ e1, l1, l2, l3, nl, sm _ _ e2, sm _ _ e3, lf⟩, tr.low, tr.few, tr.deep⟩
/-- the makes that were put on a make, rising -/
def kids (ow : List Nat) (i : Nat) : List Nat := ((List.range ow.length).filter fun n => decide (ow[n]? = some i)).map fun n => n + 1
theorem kids_len (ow : List Nat) (i : Nat) : (kids ow i).length ≤ ow.length := by
  unfold kids
  rw [List.length_map]
  have h := List.length_filter_le (fun n => decide (ow[n]? = some i)) (List.range ow.length)
  rw [List.length_range] at h
  exact h
theorem kids_more (ow : List Nat) (k i : Nat) : kids (ow ++ [k]) i = kids ow i ++ (if i = k then [ow.length + 1] else []) := by
  unfold kids
  rw [List.length_append, show ow.length + [k].length = ow.length + 1 from rfl, List.range_succ, List.filter_append, List.map_append]
  have e1 : (List.range ow.length).filter (fun n => decide ((ow ++ [k])[n]? = some i)) = (List.range ow.length).filter fun n => decide (ow[n]? = some i) := by
    refine List.filter_congr fun n hn => ?_
    rw [List.getElem?_append_left (List.mem_range.mp hn)]
  rw [e1]
  congr 1
  have e2 : (ow ++ [k])[ow.length]? = some k := by
    rw [List.getElem?_append_right (Nat.le_refl _), Nat.sub_self]
    rfl
  rw [List.filter_cons, List.filter_nil, e2]
  by_cases e : i = k
  · rw [if_pos e, if_pos (decide_eq_true (by rw [e]))]
    rfl
  · rw [if_neg e, if_neg (by simp only [decide_eq_true_eq]; exact fun z => e (Option.some.inj z).symm)]
    rfl
theorem kids_new {ow : List Nat} (h : Low ow) {i : Nat} (hi : ow.length ≤ i) : kids ow i = [] := by
  unfold kids
  rw [List.filter_eq_nil_iff.mpr, List.map_nil]
  intro n hn e
  have e2 : ow[n]? = some i := of_decide_eq_true e
  have := h n i e2
  have := List.mem_range.mp hn
  omega
/-- a tree with what is its own: nothing outside N is written -/
structure Tw (N : Addr → Prop) (H : Hp) (t C : Addr) (ow : List Nat) : Prop where
  ex : ∃ (dx o d n : Addr) (fs : List (Str × V)) (ns : List Addr), H t = some (.ins C dx fs) ∧ fs.lookup ("_owns" : Str) = some (.ref o) ∧ fs.lookup ("_depths" : Str) = some (.ref d) ∧ fs.lookup ("_on" : Str) = some (.ref n) ∧
    (∀ m, m ∉ fields → fs.lookup m = none) ∧ H o = some (.lst (.non :: ow.map num)) ∧ H d = some (.lst ((depths ow).map num)) ∧ H n = some (.lst (ns.map V.ref)) ∧ fs.length < 1000 ∧
    ns.length = ow.length + 1 ∧ o ≠ d ∧ o ≠ n ∧ d ≠ n ∧ (∀ (i : Nat) (a : Addr), ns[i]? = some a → H a = some (.lst ((kids ow i).map num)) ∧ a ≠ o ∧ a ≠ d ∧ a ≠ n ∧ N a) ∧ (∀ (i j : Nat) (a : Addr), ns[i]? = some a → ns[j]? = some a → i = j) ∧ N o ∧ N d ∧ N n
  low : Low ow
  few : ow.length ≤ 63
theorem Tw.tr {N : Addr → Prop} {H : Hp} {t C : Addr} {ow : List Nat} (w : Tw N H t C ow) : Tr H t C ow (depths ow) := by
  obtain ⟨dx, o, d, n, fs, ns, e1, l1, l2, l3, nl, e2, e3, e4, lf, _⟩ := w.ex
  exact ⟨⟨dx, o, d, n, fs, e1, l1, l2, l3, nl, e2, e3, lf⟩, w.low, w.few, rfl⟩
def spGrow (C : Addr) : Sp := fun vs H Q _ => ∃ (t : Addr) (ow : List Nat) (i : Nat) (N : Addr → Prop), vs = [.ref t, num i] ∧ Tw N H t C ow ∧ i ≤ ow.length ∧ ow.length < 63 ∧
  ∀ (H' : Hp) (N' : Addr → Prop), Tw N' H' t C (ow ++ [i]) → (∀ c u, ¬ N c → H c = some u → H' c = some u) → (∀ c, N' c → N c ∨ H c = none) → Q (num (ow.length + 1)) H'
theorem fn_grow {f : Addr} {fd : FuncData} (T : Txt K mg) (TC : TreeC K C) (m_many : Met P w K mg base 1 C "many" (spMany C) []) (m__need_make : Met P w K mg base 2 C "_need_make" (spNeed C) []) (F : Fun K "grow" "MakeTree.grow" s_MakeTree_grow f fd) :
    FnOk P w K mg base CX0 3 f fd ["self", "make"] (spGrow C) := by
  refine F.ok sc_MakeTree_grow (fun vs H Q E h => ?_) (fun cdv A outer s H vs Q E hr h => ?_)
  · obtain ⟨t, ow, i, N, rfl, _⟩ := h
    rfl
  · obtain ⟨t, ow, i, N, rfl, tw, hi, hf, q⟩ := h
    obtain ⟨dx, o, d, n, fs, ns, e1, l1, l2, l3, nl, e2, e3, e4, lf, hns, od, on, dn, hin, hnd, No, Nd, Nn⟩ := tw.ex
    refine ⟨_, (pss_cons (ps_expr (pe_mt m__need_make hr (by decide) (pv 0) (pa_cons (pv 1) pa_nil)))
      (pss_cons (ps_set (i := 2) sc_MakeTree_grow.nd rfl (Or.inl rfl) (pe_mt0 m_many hr (by decide) (pv 0)))
      (pss_cons (ps_if (pt_cmpR op_ge (pv 2) (pe_gi rfl T.g_MOST_MAKES) (nomark _))
          (pss_one ps_never) pss_nil)
      (pss_cons (ps_expr (pe_bm PySem.F.plainAttrs_list PySem.F.slot_list_append PySem.F.type_list_append mt_append (pe_fld (pv 0) rfl) (pa_cons (pv 1) pa_nil)))
      (pss_cons (ps_expr (pe_bm PySem.F.plainAttrs_list PySem.F.slot_list_append PySem.F.type_list_append mt_append (pe_fld (pv 0) rfl) (pa_cons (pe_op op_add (pe_ix ix_list (pe_fld (pv 0) rfl) (pv 1) (fun _ _ => rfl)) pe_int) pa_nil)))
      (pss_cons (ps_expr (pe_bm PySem.F.plainAttrs_list PySem.F.slot_list_append PySem.F.type_list_append mt_append (pe_fld (pv 0) rfl) (pa_cons (pe_lst pa_nil) pa_nil)))
      (pss_cons (ps_expr (pe_bm PySem.F.plainAttrs_list PySem.F.slot_list_append PySem.F.type_list_append mt_append (pe_ix ix_list (pe_fld (pv 0) rfl) (pv 1) (fun _ _ => rfl)) (pa_cons (pv 2) pa_nil)))
      (pss_one (ps_ret (pv 2)))))))))), ?_⟩
    refine ⟨_, rfl, t, dx, fs, rfl, e1, nl _ (by decide), _, rfl, t, ow, _, i, rfl, tw.tr, hi, ?_⟩
    refine ⟨_, rfl, t, dx, fs, rfl, e1, nl _ (by decide), t, ow, _, rfl, tw.tr, ?_⟩
    refine ⟨_, rfl, _, _, rfl, rfl, _, rfl, ?_⟩
    have hlt : ¬ ((64 : Int) ≤ ((ow.length + 1 : Nat) : Int)) := by omega
    rw [show decide ((64 : Int) ≤ ((ow.length + 1 : Nat) : Int)) = false from decide_eq_false hlt]
    refine iteF ?_
    have hto : t ≠ o := fun e => by rw [e, e2] at e1; cases e1
    have htd : t ≠ d := fun e => by rw [e, e3] at e1; cases e1
    have htn : t ≠ n := fun e => by rw [e, e4] at e1; cases e1
    have len1 : (V.non :: ow.map num).length < sizeLine := small1000 (by rw [List.length_cons, List.length_map]; omega)
    have len2 : ((depths ow).map num).length < sizeLine := small1000 (by unfold depths; rw [List.length_map, List.length_map, List.length_range]; omega)
    have len3 : (ns.map V.ref).length < sizeLine := small1000 (by rw [List.length_map]; omega)
    refine ⟨_, rfl, t, C, dx, fs, .ref o, rfl, e1, TC.cl, TC.n_owns, l1, .inl ⟨rfl, _, SqL.of e2⟩, _, rfl, o, _, _, rfl, rfl, e2, len1, ?_⟩
    have f1 : (upd H o (.lst ((V.non :: ow.map num) ++ [num i]))) t = some (.ins C dx fs) := (upd_ne hto).trans e1
    have f3 : (upd H o (.lst ((V.non :: ow.map num) ++ [num i]))) d = some (.lst ((depths ow).map num)) := (upd_ne od.symm).trans e3
    refine ⟨_, rfl, t, C, dx, fs, .ref d, rfl, f1, TC.cl, TC.n_depths, l2, .inl ⟨rfl, _, SqL.of f3⟩, _, rfl, t, C, dx, fs, .ref d, rfl, f1, TC.cl, TC.n_depths, l2, _, rfl, d, _, _, _, rfl, rfl, SqL.of f3, depths_at hi, _, _, rfl, rfl, d, _, _, rfl, rfl, f3, len2, ?_⟩
    have hpos : 0 < (line ow i).length := by
      obtain ⟨us, hu, _⟩ := line_last tw.low i
      rw [hu, List.length_append]
      exact Nat.succ_pos _
    have ev : (V.int ((((line ow i).length - 1 : Nat) : Int) + 1)) = num (line ow i).length := by
      show V.int _ = V.int _
      congr 1
      omega
    show (fun H2 => _) (upd (upd H o (.lst ((V.non :: ow.map num) ++ [num i]))) d (.lst ((depths ow).map num ++ [V.int ((((line ow i).length - 1 : Nat) : Int) + 1)])))
    rw [ev]
    have g_o : (upd (upd H o (.lst ((V.non :: ow.map num) ++ [num i]))) d (.lst ((depths ow).map num ++ [num (line ow i).length]))) o = some (.lst (.non :: (ow ++ [i]).map num)) := by
      rw [upd_ne od, upd_same, List.map_append]
      rfl
    have g_d : (upd (upd H o (.lst ((V.non :: ow.map num) ++ [num i]))) d (.lst ((depths ow).map num ++ [num (line ow i).length]))) d = some (.lst ((depths (ow ++ [i])).map num)) := by
      rw [upd_same, depths_more tw.low hi, List.map_append]
      rfl
    have g_k : ∀ c u, c ≠ o → c ≠ d → H c = some u → (upd (upd H o (.lst ((V.non :: ow.map num) ++ [num i]))) d (.lst ((depths ow).map num ++ [num (line ow i).length]))) c = some u := fun c u h1 h2 z => by
      rw [upd_ne h2, upd_ne h1]
      exact z
    have g_n : ∀ c, (upd (upd H o (.lst ((V.non :: ow.map num) ++ [num i]))) d (.lst ((depths ow).map num ++ [num (line ow i).length]))) c = none → H c = none := fun c z => upd_none (upd_none z)
    generalize upd (upd H o (.lst ((V.non :: ow.map num) ++ [num i]))) d (.lst ((depths ow).map num ++ [num (line ow i).length])) = H2 at *
    have h2t := g_k _ _ hto htd e1
    have h2n := g_k _ _ on.symm dn.symm e4
    refine ⟨_, rfl, t, C, dx, fs, .ref n, rfl, h2t, TC.cl, TC.n_on, l3, .inl ⟨rfl, _, SqL.of h2n⟩, (by show 0 ≤ sizeLine; decide), fun p hp => ?_⟩
    refine ⟨n, _, _, rfl, rfl, kep h2n hp, len3, ?_⟩
    have hpo : p ≠ o := fun e => by rw [e, g_o] at hp; cases hp
    have hpd : p ≠ d := fun e => by rw [e, g_d] at hp; cases hp
    have hpn : p ≠ n := fun e => by rw [e, h2n] at hp; cases hp
    have hpt : p ≠ t := fun e => by rw [e, h2t] at hp; cases hp
    have hi2 : i < ns.length := by omega
    obtain ⟨b, hb⟩ : ∃ b, ns[i]? = some b := ⟨_, List.getElem?_eq_getElem hi2⟩
    obtain ⟨hks, bo, bd, bn, Nb⟩ := hin i b hb
    have hkl := kids_len ow i
    have hbt : b ≠ t := fun e => by rw [e, e1] at hks; cases hks
    have h2b := g_k _ _ bo bd hks
    have hbp : b ≠ p := fun e => by rw [e, hp] at h2b; cases h2b
    have h3n : (upd (upd H2 p (.lst [])) n (.lst (ns.map V.ref ++ [V.ref p]))) n = some (.lst ((ns ++ [p]).map V.ref)) := by
      rw [upd_same, List.map_append]
      rfl
    have h3t : (upd (upd H2 p (.lst [])) n (.lst (ns.map V.ref ++ [V.ref p]))) t = some (.ins C dx fs) := by
      rw [upd_ne htn, upd_ne hpt.symm]
      exact h2t
    have h3b : (upd (upd H2 p (.lst [])) n (.lst (ns.map V.ref ++ [V.ref p]))) b = some (.lst ((kids ow i).map num)) := by
      rw [upd_ne bn, upd_ne hbp]
      exact h2b
    have h3p : (upd (upd H2 p (.lst [])) n (.lst (ns.map V.ref ++ [V.ref p]))) p = some (.lst []) := by
      rw [upd_ne hpn, upd_same]
    have h3k : ∀ c u, c ≠ n → c ≠ p → H2 c = some u → (upd (upd H2 p (.lst [])) n (.lst (ns.map V.ref ++ [V.ref p]))) c = some u := fun c u h1 h2 z => by
      rw [upd_ne h1, upd_ne h2]
      exact z
    generalize upd (upd H2 p (.lst [])) n (.lst (ns.map V.ref ++ [V.ref p])) = H3 at *
    have hat : atI ((ns ++ [p]).map V.ref) ((i : Nat) : Int) = some (V.ref b) := by
      refine atI_nat ?_
      rw [List.getElem?_map, List.getElem?_append_left hi2, hb]
      rfl
    refine ⟨_, rfl, t, C, dx, fs, .ref n, rfl, h3t, TC.cl, TC.n_on, l3, _, rfl, n, _, _, _, rfl, rfl, SqL.of h3n, hat, .inl ⟨rfl, _, SqL.of h3b⟩, _, rfl, b, _, _, rfl, rfl, h3b, small1000 (by rw [List.length_map]; omega), ?_⟩
    refine ⟨_, rfl, q _ (fun c => N c ∨ c = p) ⟨⟨dx, o, d, n, fs, ns ++ [p], ?_, l1, l2, l3, nl, ?_, ?_, ?_, lf, ?_, od, on, dn, fun j c hc => ?_, fun j k c h1 h2 => ?_, .inl No, .inl Nd, .inl Nn⟩, low_more tw.low hi, ?_⟩ (fun c u hc z => ?_) fun c hc => ?_⟩
    · rw [upd_ne hbt.symm]
      exact h3t
    · rw [upd_ne bo.symm]
      exact h3k _ _ on hpo.symm g_o
    · rw [upd_ne bd.symm]
      exact h3k _ _ dn hpd.symm g_d
    · rw [upd_ne bn.symm]
      exact h3n
    · rw [List.length_append, List.length_append, hns]
      rfl
    · by_cases hj : j < ns.length
      · rw [List.getElem?_append_left hj] at hc
        obtain ⟨hls, co, cd, cn, Nc⟩ := hin j c hc
        refine ⟨?_, co, cd, cn, .inl Nc⟩
        rw [kids_more]
        by_cases e : j = i
        · subst e
          rw [hb] at hc
          cases hc
          rw [if_pos rfl, List.map_append]
          exact upd_same
        · have ecb : c ≠ b := fun z => e (hnd j i c hc (z ▸ hb))
          rw [if_neg e, List.append_nil, upd_ne ecb]
          have h2c := g_k _ _ co cd hls
          exact h3k _ _ cn (fun z => by rw [z, hp] at h2c; cases h2c) h2c
      · rw [List.getElem?_append_right (by omega)] at hc
        by_cases h0 : j - ns.length = 0
        · rw [h0] at hc
          cases (show some p = some c from hc)
          refine ⟨?_, hpo, hpd, hpn, .inr rfl⟩
          rw [kids_more, if_neg (by omega), List.append_nil, kids_new tw.low (i := j) (by omega), upd_ne hbp.symm]
          exact h3p
        · rw [List.getElem?_eq_none (by show 1 ≤ _; omega)] at hc
          cases hc
    · have old : ∀ (j : Nat) (c : Addr), ns[j]? = some c → c ≠ p := fun j c hc z => by
        obtain ⟨hls, co, cd, cn, Nc⟩ := hin j c hc
        have h2c := g_k _ _ co cd hls
        rw [z, hp] at h2c
        cases h2c
      have at_ : ∀ (j : Nat) (c : Addr), (ns ++ [p])[j]? = some c → (j < ns.length ∧ ns[j]? = some c) ∨ (j = ns.length ∧ c = p) := fun j c hc => by
        by_cases hj : j < ns.length
        · rw [List.getElem?_append_left hj] at hc
          exact .inl ⟨hj, hc⟩
        · rw [List.getElem?_append_right (by omega)] at hc
          by_cases h0 : j - ns.length = 0
          · rw [h0] at hc
            exact .inr ⟨by omega, (Option.some.inj hc).symm⟩
          · rw [List.getElem?_eq_none (by show 1 ≤ _; omega)] at hc
            cases hc
      rcases at_ j c h1 with ⟨a1, a2⟩ | ⟨a1, a2⟩
      · rcases at_ k c h2 with ⟨b1, b2⟩ | ⟨b1, b2⟩
        · exact hnd j k c a2 b2
        · exact absurd b2 (old j c a2)
      · rcases at_ k c h2 with ⟨b1, b2⟩ | ⟨b1, b2⟩
        · exact absurd a2 (old k c b2)
        · omega
    · rw [List.length_append]
      show ow.length + 1 ≤ 63
      omega
    · have c1 : c ≠ o := fun e => hc (e ▸ No)
      have c2 : c ≠ d := fun e => hc (e ▸ Nd)
      have c3 : c ≠ n := fun e => hc (e ▸ Nn)
      have c4 : c ≠ b := fun e => hc (e ▸ Nb)
      have h2c := g_k _ _ c1 c2 z
      rw [upd_ne c4]
      exact h3k _ _ c3 (fun z => by rw [z, hp] at h2c; cases h2c) h2c
    · rcases hc with hc | hc
      · exact .inl hc
      · rw [hc]
        exact .inr (g_n _ hp)
theorem ok_grow (T : Txt K mg) (TC : TreeC K C) (m_many : Met P w K mg base 1 C "many" (spMany C) []) (m__need_make : Met P w K mg base 2 C "_need_make" (spNeed C) []) (M : MAt K C "grow" "MakeTree.grow" s_MakeTree_grow ["self", "make"]) :
    Met P w K mg base 3 C "grow" (spGrow C) [] := by
  obtain ⟨f, fd, F, me, b⟩ := M.ex
  exact ⟨f, fd, _, [], TC.cl, me, fn_grow T TC m_many m__need_make F, b, .nil⟩
def spInit (C : Addr) : Sp := fun vs H Q _ => ∃ (t dx : Addr), vs = [.ref t] ∧ H t = some (.ins C dx []) ∧
  ∀ (H' : Hp) (N' : Addr → Prop), Tw N' H' t C [] → (∃ fs, H' t = some (.ins C dx fs) ∧ fs.length ≤ 3 ∧ fs.lookup ("_leaps" : Str) = none) → (∀ c u, c ≠ t → H c = some u → H' c = some u) → (∀ c, N' c → H c = none) → Q .non H'
theorem fn_init {f : Addr} {fd : FuncData} (T : Txt K mg) (TC : TreeC K C) (F : Fun K "__init__" "MakeTree.__init__" s_MakeTree___init__ f fd) : FnOk P w K mg base CX0 1 f fd ["self"] (spInit C) := by
  refine F.ok sc_MakeTree___init__ (fun vs H Q E h => ?_) (fun cdv A outer s H vs Q E hr h => ?_)
  · obtain ⟨t, dx, rfl, _⟩ := h
    rfl
  · obtain ⟨t, dx, rfl, e1, q⟩ := h
    refine ⟨_, (pss_cons (ps_fld (pv 0) (pe_lst (pa_cons pe_non pa_nil)) rfl)
      (pss_cons (ps_fld (pv 0) (pe_lst (pa_cons pe_int pa_nil)) rfl)
      (pss_one (ps_fld (pv 0) (pe_lst (pa_cons (pe_lst pa_nil) pa_nil)) rfl)))), ?_⟩
    refine ⟨(by show 1 ≤ sizeLine; decide), fun o ho => ?_⟩
    have hto : t ≠ o := fun e => by rw [← e, e1] at ho; cases ho
    refine ⟨_, rfl, t, C, dx, [], rfl, kep e1 ho, TC.cl, TC.n_owns, by decide, ?_⟩
    have k1 : ∀ c u, c ≠ t → H c = some u → (upd (upd H o (.lst [V.non])) t (.ins C dx (putF "_owns" (.ref o) []))) c = some u := fun c u h z => by
      rw [upd_ne h]
      exact kep z ho
    have n1 : ∀ c, (upd (upd H o (.lst [V.non])) t (.ins C dx (putF "_owns" (.ref o) []))) c = none → H c = none := fun c z => upd_none (upd_none z)
    have a1t : (upd (upd H o (.lst [V.non])) t (.ins C dx (putF "_owns" (.ref o) []))) t = some (.ins C dx (putF "_owns" (.ref o) [])) := upd_same
    have a1o : (upd (upd H o (.lst [V.non])) t (.ins C dx (putF "_owns" (.ref o) []))) o = some (.lst [V.non]) := by
      rw [upd_ne hto.symm, upd_same]
    generalize hA1 : upd (upd H o (.lst [V.non])) t (.ins C dx (putF "_owns" (.ref o) [])) = A1 at *
    refine ⟨(by show 1 ≤ sizeLine; decide), fun d hd => ?_⟩
    have htd : t ≠ d := fun e => by rw [← e, a1t] at hd; cases hd
    have hod : o ≠ d := fun e => by rw [← e, a1o] at hd; cases hd
    have p1 : (putF "_owns" (.ref o) ([] : List (Str × V))).length ≤ 1 := length_putF _ _ _
    refine ⟨_, rfl, t, C, dx, _, rfl, kep a1t hd, TC.cl, TC.n_depths, Nat.lt_of_le_of_lt p1 (by decide), ?_⟩
    have k2 : ∀ c u, c ≠ t → A1 c = some u → (upd (upd A1 d (.lst [V.int 0])) t (.ins C dx (putF "_depths" (.ref d) (putF "_owns" (.ref o) [])))) c = some u := fun c u h z => by
      rw [upd_ne h]
      exact kep z hd
    have n2 : ∀ c, (upd (upd A1 d (.lst [V.int 0])) t (.ins C dx (putF "_depths" (.ref d) (putF "_owns" (.ref o) [])))) c = none → A1 c = none := fun c z => upd_none (upd_none z)
    have a2t : (upd (upd A1 d (.lst [V.int 0])) t (.ins C dx (putF "_depths" (.ref d) (putF "_owns" (.ref o) [])))) t = some (.ins C dx (putF "_depths" (.ref d) (putF "_owns" (.ref o) []))) := upd_same
    have a2d : (upd (upd A1 d (.lst [V.int 0])) t (.ins C dx (putF "_depths" (.ref d) (putF "_owns" (.ref o) [])))) d = some (.lst [V.int 0]) := by
      rw [upd_ne htd.symm, upd_same]
    have a2o := k2 _ _ hto.symm a1o
    generalize hA2 : (upd (upd A1 d (.lst [V.int 0])) t (.ins C dx (putF "_depths" (.ref d) (putF "_owns" (.ref o) [])))) = A2 at *
    refine ⟨(by show 0 ≤ sizeLine; decide), fun a ha => ⟨(by show 1 ≤ sizeLine; decide), fun n hn => ?_⟩⟩
    have hn2 : A2 n = none := upd_none hn
    have hta : t ≠ a := fun e => by rw [← e, a2t] at ha; cases ha
    have htn : t ≠ n := fun e => by rw [← e, a2t] at hn2; cases hn2
    have hda : d ≠ a := fun e => by rw [← e, a2d] at ha; cases ha
    have hdn : d ≠ n := fun e => by rw [← e, a2d] at hn2; cases hn2
    have hoa : o ≠ a := fun e => by rw [← e, a2o] at ha; cases ha
    have hon : o ≠ n := fun e => by rw [← e, a2o] at hn2; cases hn2
    have han : a ≠ n := fun e => by
      rw [← e, upd_same] at hn
      cases hn
    have p2 : (putF "_depths" (.ref d) (putF "_owns" (.ref o) ([] : List (Str × V)))).length ≤ 2 := Nat.le_trans (length_putF _ _ _) (Nat.succ_le_succ p1)
    refine ⟨_, rfl, t, C, dx, _, rfl, kep (kep a2t ha) hn, TC.cl, TC.n_on, Nat.lt_of_le_of_lt p2 (by decide), ?_⟩
    have p3 : (putF "_on" (.ref n) (putF "_depths" (.ref d) (putF "_owns" (.ref o) ([] : List (Str × V))))).length ≤ 3 := Nat.le_trans (length_putF _ _ _) (Nat.succ_le_succ p2)
    have k3 : ∀ c u, c ≠ t → A2 c = some u → (upd (upd (upd A2 a (.lst [])) n (.lst [V.ref a])) t (.ins C dx (putF "_on" (.ref n) (putF "_depths" (.ref d) (putF "_owns" (.ref o) []))))) c = some u := fun c u h z => by
      rw [upd_ne h]
      exact kep (kep z ha) hn
    have a3t : (upd (upd (upd A2 a (.lst [])) n (.lst [V.ref a])) t (.ins C dx (putF "_on" (.ref n) (putF "_depths" (.ref d) (putF "_owns" (.ref o) []))))) t = some (.ins C dx (putF "_on" (.ref n) (putF "_depths" (.ref d) (putF "_owns" (.ref o) [])))) := upd_same
    have a3n : (upd (upd (upd A2 a (.lst [])) n (.lst [V.ref a])) t (.ins C dx (putF "_on" (.ref n) (putF "_depths" (.ref d) (putF "_owns" (.ref o) []))))) n = some (.lst [V.ref a]) := by
      rw [upd_ne htn.symm, upd_same]
    have a3a : (upd (upd (upd A2 a (.lst [])) n (.lst [V.ref a])) t (.ins C dx (putF "_on" (.ref n) (putF "_depths" (.ref d) (putF "_owns" (.ref o) []))))) a = some (.lst []) := by
      rw [upd_ne hta.symm, upd_ne han, upd_same]
    refine q _ (fun c => c = o ∨ c = d ∨ c = n ∨ c = a) ⟨⟨dx, o, d, n, _, [a], a3t, ?_, ?_, ?_, fun m hm => ?_, k3 _ _ hto.symm a2o, k3 _ _ htd.symm a2d, a3n, Nat.lt_of_le_of_lt p3 (by decide), rfl, hod, hon, hdn, fun i c hc => ?_, fun i j c h1 h2 => ?_, .inl rfl, .inr (.inl rfl), .inr (.inr (.inl rfl))⟩, (fun _ _ z => nomatch z), Nat.zero_le _⟩ ⟨_, a3t, p3, ?_⟩ (fun c u hc z => k3 _ _ hc (k2 _ _ hc (k1 _ _ hc z))) fun c hc => ?_
    · rw [lookup_putF, if_neg (by decide), lookup_putF, if_neg (by decide), lookup_putF, if_pos rfl]
    · rw [lookup_putF, if_neg (by decide), lookup_putF, if_pos rfl]
    · rw [lookup_putF, if_pos rfl]
    · have hm2 : m ≠ "_on" ∧ m ≠ "_depths" ∧ m ≠ "_owns" := ⟨fun e => hm (by rw [e]; decide), fun e => hm (by rw [e]; decide), fun e => hm (by rw [e]; decide)⟩
      rw [lookup_putF, if_neg hm2.1, lookup_putF, if_neg hm2.2.1, lookup_putF, if_neg hm2.2.2]
      rfl
    · cases i with
      | zero =>
        cases (show some a = some c from hc)
        exact ⟨a3a, hoa.symm, hda.symm, han, .inr (.inr (.inr rfl))⟩
      | succ i => cases hc
    · cases i with
      | zero =>
        cases j with
        | zero => rfl
        | succ j => cases h2
      | succ i => cases h1
    · rw [lookup_putF, if_neg (by decide), lookup_putF, if_neg (by decide), lookup_putF, if_neg (by decide)]
      rfl
    · rcases hc with rfl | rfl | rfl | rfl
      · exact ho
      · exact n1 _ hd
      · exact n1 _ (n2 _ hn2)
      · exact n1 _ (n2 _ ha)
end
end K6
set_option maxHeartbeats 1000000
namespace K6
open PySem PySem.Spec PyProof.Rows L2 Gd Gs
open C8 (clsBody Met pe_mt pe_mt0)
/-- the lists of leaps: of make i those that it keeps, each below i -/
structure Lv (N : Addr → Prop) (H : Hp) (q : Addr) (n : Nat) : Prop where
  ex : ∃ ls : List Addr, H q = some (.lst (ls.map V.ref)) ∧ ls.length = n ∧ N q ∧
    ∀ (i : Nat) (a : Addr), ls[i]? = some a → N a ∧ a ≠ q ∧ ∃ ks : List Nat, H a = some (.lst (ks.map num)) ∧ (∀ x ∈ ks, x < i)
/-- a tree that leaps -/
structure Lw (C : Addr) (N : Addr → Prop) (H : Hp) (t : Addr) (ow : List Nat) : Prop where
  ex : ∃ (N1 N2 : Addr → Prop) (dx q : Addr) (fs : List (Str × V)), Tw N1 H t C ow ∧ H t = some (.ins C dx fs) ∧ fs.lookup ("_leaps" : Str) = some (.ref q) ∧ Lv N2 H q (ow.length + 1) ∧
    (∀ c, N1 c → N2 c → False) ∧ (∀ c, N1 c → N c) ∧ (∀ c, N2 c → N c)
theorem Lw.tr {C t : Addr} {N : Addr → Prop} {H : Hp} {ow : List Nat} (l : Lw C N H t ow) : Tr H t C ow (depths ow) := by
  obtain ⟨N1, N2, dx, q, fs, tw, _⟩ := l.ex
  exact tw.tr
section
variable {P : Program} {w : World} {K : PySem.W.Frag} {mg : Str → Option Value} {base : Heap} {C : Addr}
def spThrough (C : Addr) : Sp := fun vs H Q _ => ∃ (t dx q : Addr) (fs : List (Str × V)) (n own : Nat) (N : Addr → Prop), vs = [.ref t, num own] ∧ H t = some (.ins C dx fs) ∧ fs.lookup ("_leaps" : Str) = some (.ref q) ∧ Lv N H q n ∧
  own < n ∧ n < 100 ∧ ∀ (p : Addr) (H' : Hp) (ks : List Nat), H p = none → Same H H' → H' p = some (.lst (ks.map num)) → (∀ x ∈ ks, x ≤ own) → Q (.ref p) H'
theorem ok_through (T : Txt K mg) (TC : TreeC K C) (M : MAt K C "_leaps_through" "LeapTree._leaps_through" s_LeapTree__leaps_through ["self", "own"]) : Met P w K mg base 1 C "_leaps_through" (spThrough C) [] := by
  refine M.met TC.cl sc_LeapTree__leaps_through (fun vs H Q E h => ?_) (fun f cdv A outer s H vs Q E hr h => ?_)
  · obtain ⟨t, dx, q, fs, n, own, N, rfl, _⟩ := h
    rfl
  · obtain ⟨t, dx, q, fs, n, own, N, rfl, e1, l1, lv, ho, hn, qq⟩ := h
    obtain ⟨ls, e2, hl, Nq, hls⟩ := lv.ex
    refine ⟨_, (pss_cons (ps_set (i := 2) sc_LeapTree__leaps_through.nd rfl (Or.inl rfl) (pe_lst (pa_cons (pv 1) pa_nil)))
      (pss_cons (ps_while PassesOwn.never (pt_cmpR op_ge (pe_callB call_len (by rfl) T.b_len boot_len_ (pa_cons (pe_ix ix_list (pe_fld (pv 0) rfl) (pe_ix ix_list (pv 2) (pe_un un_neg pe_int) (fun _ _ => rfl)) (fun _ _ => rfl)) pa_nil)) (pe_callB call_len (by rfl) T.b_len boot_len_ (pa_cons (pv 2) pa_nil)) (nomark _))
          (pss_one (ps_expr (pe_bm PySem.F.plainAttrs_list PySem.F.slot_list_append PySem.F.type_list_append mt_append (pv 2) (pa_cons (pe_ix ix_list (pe_ix ix_list (pe_fld (pv 0) rfl) (pe_ix ix_list (pv 2) (pe_un un_neg pe_int) (fun _ _ => rfl)) (fun _ _ => rfl)) (pe_op op_sub (pe_callB call_len (by rfl) T.b_len boot_len_ (pa_cons (pv 2) pa_nil)) pe_int) (fun _ _ => rfl)) pa_nil)))))
      (pss_one (ps_ret (pv 2))))), ?_⟩
    refine ⟨_, rfl, (by show 1 ≤ sizeLine; decide), fun l hl0 => ?_⟩
    refine ⟨fun m σ H' => Same H H' ∧ ∃ us : List Nat, σ = [some (.ref t), some (num own), some (.ref l)] ∧ H' l = some (.lst ((us ++ [m]).map num)) ∧ (∀ x ∈ us ++ [m], x ≤ own) ∧ us.length + m ≤ own, ⟨own, same_new hl0, [], rfl, upd_same, (fun x hx => by rw [List.mem_singleton.mp hx]; exact Nat.le_refl _), by simp⟩, ?_⟩
    rintro m σ H' ⟨sm, us, rfl, hL, hall, hle⟩
    have hlast : atI ((us ++ [m]).map num) (-1) = some (num m) := by
      rw [List.map_append]
      exact atI_last _ _
    have hm : m ≤ own := hall m (List.mem_append_right _ List.mem_cons_self)
    obtain ⟨a, ha⟩ : ∃ a, ls[m]? = some a := ⟨_, List.getElem?_eq_getElem (by omega)⟩
    obtain ⟨Na, aq, ks, hks, hlt⟩ := hls m a ha
    have hata : atI (ls.map V.ref) ((m : Nat) : Int) = some (V.ref a) := by
      refine atI_nat ?_
      rw [List.getElem?_map, ha]
      rfl
    have hA := sm _ _ hks
    refine ⟨_, rfl, t, C, dx, fs, .ref q, rfl, sm _ _ e1, TC.cl, TC.n_leaps, l1, _, rfl, _, rfl, l, _, _, _, rfl, rfl, SqL.of hL, hlast, ?_⟩
    refine ⟨q, _, _, _, rfl, rfl, SqL.of (sm _ _ e2), hata, ?_⟩
    refine ⟨.ref a, (ks.map num).length, rfl, .inl ⟨_, SqL.of hA, rfl⟩, ?_⟩
    refine ⟨_, rfl, .ref l, ((us ++ [m]).map num).length, rfl, .inl ⟨_, SqL.of hL, rfl⟩, _, _, rfl, rfl, _, rfl, ?_⟩
    rw [List.length_map, List.length_map, List.length_append]
    refine ite2 (fun hge => ?_) (fun _ => ?_)
    · have h2 : us.length < ks.length := by
        have := of_decide_eq_true hge
        show us.length + 1 ≤ _
        have e : ([m] : List Nat).length = 1 := rfl
        rw [e] at this
        omega
      have hk : ks[us.length]? = some ks[us.length] := List.getElem?_eq_getElem h2
      generalize ks[us.length] = m2 at hk
      have hm2 : m2 < m := hlt m2 (List.mem_of_getElem? hk)
      refine ⟨fun σ' H'' => ∃ m', m' < m ∧ Same H H'' ∧ ∃ us : List Nat, σ' = [some (.ref t), some (num own), some (.ref l)] ∧ H'' l = some (.lst ((us ++ [m']).map num)) ∧ (∀ x ∈ us ++ [m'], x ≤ own) ∧ us.length + m' ≤ own, fun σ' H'' z => z, ?_⟩
      refine ⟨_, rfl, .inl ⟨rfl, _, SqL.of hL⟩, ?_⟩
      refine ⟨_, rfl, t, C, dx, fs, .ref q, rfl, sm _ _ e1, TC.cl, TC.n_leaps, l1, _, rfl, _, rfl, l, _, _, _, rfl, rfl, SqL.of hL, hlast, ?_⟩
      refine ⟨q, _, _, _, rfl, rfl, SqL.of (sm _ _ e2), hata, ?_⟩
      refine ⟨_, rfl, .ref l, ((us ++ [m]).map num).length, rfl, .inl ⟨_, SqL.of hL, rfl⟩, _, _, rfl, rfl, ?_⟩
      have hat2 : atI (ks.map num) (((((us ++ [m]).map num).length : Nat) : Int) - 1) = some (num m2) := by
        have e : (((((us ++ [m]).map num).length : Nat) : Int) - 1) = ((us.length : Nat) : Int) := by
          rw [List.length_map, List.length_append]
          show ((us.length + 1 : Nat) : Int) - 1 = _
          omega
        rw [e]
        refine atI_nat ?_
        rw [List.getElem?_map, hk]
        rfl
      refine ⟨a, _, _, _, rfl, rfl, SqL.of hA, hat2, ?_⟩
      refine ⟨l, _, _, rfl, rfl, hL, ?_, m2, hm2, fun c u z => ?_, us ++ [m], rfl, ?_, ?_, ?_⟩
      · rw [List.length_map, List.length_append]
        exact small1000 (by show us.length + 1 ≤ 1000; omega)
      · rw [upd_ne (ne_of_none z hl0)]
        exact sm c u z
      · rw [upd_same, List.map_append (f := num) (l₁ := us ++ [m])]
        rfl
      · intro x hx
        rcases List.mem_append.mp hx with hx | hx
        · exact hall x hx
        · rw [List.mem_singleton.mp hx]
          omega
      · rw [List.length_append]
        show us.length + 1 + _ ≤ own
        omega
    · exact ⟨_, rfl, qq l _ (us ++ [m]) hl0 sm hL hall⟩
end
end K6
set_option maxHeartbeats 1000000
namespace K6
open PySem PySem.Spec PyProof.Rows L2 Gd Gs
open NdefX (NScope nscope_by ncx startF NF)
open C8 (clsBody Met pe_mt pe_mt0)
theorem Tw.cut {N : Addr → Prop} {H : Hp} {t C : Addr} {ow : List Nat} (w : Tw N H t C ow) : Tw (fun c => N c ∧ c ≠ t ∧ H c ≠ none) H t C ow := by
  obtain ⟨dx, o, d, n, fs, ns, e1, l1, l2, l3, nl, e2, e3, e4, lf, hns, od, on, dn, hin, hnd, No, Nd, Nn⟩ := w.ex
  refine ⟨⟨dx, o, d, n, fs, ns, e1, l1, l2, l3, nl, e2, e3, e4, lf, hns, od, on, dn, fun i a ha => ?_, hnd, ⟨No, fun e => ?_, fun e => ?_⟩, ⟨Nd, fun e => ?_, fun e => ?_⟩, ⟨Nn, fun e => ?_, fun e => ?_⟩⟩, w.low, w.few⟩
  · obtain ⟨h1, a1, a2, a3, a4⟩ := hin i a ha
    refine ⟨h1, a1, a2, a3, a4, fun e => ?_, fun e => ?_⟩
    · rw [e, e1] at h1
      cases h1
    · rw [e] at h1
      cases h1
  · rw [e, e1] at e2
    cases e2
  · rw [e] at e2
    cases e2
  · rw [e, e1] at e3
    cases e3
  · rw [e] at e3
    cases e3
  · rw [e, e1] at e4
    cases e4
  · rw [e] at e4
    cases e4
theorem Tw.kp {N : Addr → Prop} {H H' : Hp} {t C : Addr} {ow : List Nat} (w : Tw N H t C ow) (k : ∀ c u, (N c ∨ c = t) → H c = some u → H' c = some u) : Tw N H' t C ow := by
  obtain ⟨dx, o, d, n, fs, ns, e1, l1, l2, l3, nl, e2, e3, e4, lf, hns, od, on, dn, hin, hnd, No, Nd, Nn⟩ := w.ex
  refine ⟨⟨dx, o, d, n, fs, ns, k _ _ (.inr rfl) e1, l1, l2, l3, nl, k _ _ (.inl No) e2, k _ _ (.inl Nd) e3, k _ _ (.inl Nn) e4, lf, hns, od, on, dn, fun i a ha => ?_, hnd, No, Nd, Nn⟩, w.low, w.few⟩
  obtain ⟨h1, a1, a2, a3, a4⟩ := hin i a ha
  exact ⟨k _ _ (.inl a4) h1, a1, a2, a3, a4⟩
theorem Tw.put {N : Addr → Prop} {H H' : Hp} {t C dx : Addr} {ow : List Nat} {fs fs' : List (Str × V)} (w : Tw N H t C ow) (k : ∀ c u, c ≠ t → H c = some u → H' c = some u)
    (e : H t = some (.ins C dx fs)) (e' : H' t = some (.ins C dx fs')) (hl : fs'.length < 1000) (hf : ∀ m : Str, m ≠ "_leaps" → fs'.lookup m = fs.lookup m) : Tw N H' t C ow := by
  obtain ⟨dx2, o, d, n, fs2, ns, e1, l1, l2, l3, nl, e2, e3, e4, lf, hns, od, on, dn, hin, hnd, No, Nd, Nn⟩ := w.ex
  rw [e] at e1
  cases e1
  have no : o ≠ t := fun z => by rw [z, e] at e2; cases e2
  have nd : d ≠ t := fun z => by rw [z, e] at e3; cases e3
  have nn : n ≠ t := fun z => by rw [z, e] at e4; cases e4
  refine ⟨⟨dx, o, d, n, fs', ns, e', (hf _ (by decide)).trans l1, (hf _ (by decide)).trans l2, (hf _ (by decide)).trans l3, fun m hm => (hf m fun z => hm (by rw [z]; decide)).trans (nl m hm), k _ _ no e2, k _ _ nd e3, k _ _ nn e4, hl, hns, od, on, dn, fun i a ha => ?_, hnd, No, Nd, Nn⟩, w.low, w.few⟩
  obtain ⟨h1, a1, a2, a3, a4⟩ := hin i a ha
  exact ⟨k _ _ (fun z => by rw [z, e] at h1; cases h1) h1, a1, a2, a3, a4⟩
theorem Lv.mono {N N' : Addr → Prop} {H H' : Hp} {q : Addr} {n : Nat} (l : Lv N H q n) (hn : ∀ c, N c → N' c) (k : ∀ c u, N c → H c = some u → H' c = some u) : Lv N' H' q n := by
  obtain ⟨ls, h1, h2, h3, h4⟩ := l.ex
  refine ⟨ls, k _ _ h3 h1, h2, hn _ h3, fun i a ha => ?_⟩
  obtain ⟨a1, a2, ks, a3, a4⟩ := h4 i a ha
  exact ⟨hn _ a1, a2, ks, k _ _ a1 a3, a4⟩
/-- a method of C that begins with super().m, g above it -/
structure SAt (P : Program) (K : PySem.W.Frag) (C : Addr) (m qual : Str) (st : Stmt) (ps : List Str) (g : Addr) : Prop where
  ex : ∃ (f cc c : Addr) (oc : Value) (od : Option Addr) (doc pm : Value) (an : Option Addr) (ct : Value) (osl : Array (Option Value)),
    SupTxt P K C C f g cc ⟨m, qual, defArgs st, defBody st, defScope st, [(("__class__" : Str), cc)], c⟩ m ∧
    K.lookup f = some ⟨oc, od, .func (PySem.W.ksFn m qual (defArgs st) (defBody st) (defScope st) .none .none doc pm an (.ref c) ct cc), osl⟩ ∧ Meth K C m f ∧
    Binds K (PySem.W.ksFn m qual (defArgs st) (defBody st) (defScope st) .none .none doc pm an (.ref c) ct cc) ps []
theorem ns_grow : NScope ["self", "make", "__class__", "number"] ["self", "make"] ["__class__"] (defScope s_LeapTree_grow) := nscope_by (by decide +kernel)
theorem ns_init : NScope ["self", "__class__"] ["self"] ["__class__"] (defScope s_LeapTree___init__) := nscope_by (by decide +kernel)
section
variable {P : Program} {w : World} {K : PySem.W.Frag} {mg : Str → Option Value} {base : Heap} {C : Addr}
def spInitL (C : Addr) : Sp := fun vs H Q _ => ∃ (t dx : Addr), vs = [.ref t] ∧ H t = some (.ins C dx []) ∧
  ∀ (H' : Hp) (N' : Addr → Prop), Lw C N' H' t [] → (∀ c u, c ≠ t → H c = some u → H' c = some u) → (∀ c, N' c → H c = none) → Q .non H'
theorem okL_init {g : Addr} {fd : FuncData} (T : Txt K mg) (TC : TreeC K C) (F : Fun K "__init__" "MakeTree.__init__" s_MakeTree___init__ g fd) (hb : Binds K fd ["self"] []) (S : SAt P K C "__init__" "LeapTree.__init__" s_LeapTree___init__ ["self"] g) :
    ∃ (f : Addr) (fd : FuncData), Meth K C "__init__" f ∧ Binds K fd ["self"] [] ∧ FnOk P w K mg base CX0 2 f fd ["self"] (spInitL C) := by
  obtain ⟨f, cc, c, oc, od, doc, pm, an, ct, osl, sup, lk, me, bi⟩ := S.ex
  refine ⟨f, _, me, bi, ?_⟩
  refine okS_do sup lk ns_init rfl (fun vs H Q E h => ?_) rfl (fn_init T TC F) hb (by rfl) (fun L => by rfl) (fun L => by rfl) ?_
  · obtain ⟨t, dx, rfl, _⟩ := h
    rfl
  · rintro A outer s H vs Q E hr ⟨t, dx, rfl, e1, q⟩
    refine ⟨t, dx, [], E0, _, rfl, e1, pass0, (pss_one (ps_fld (pv 0) (pe_lst (pa_cons (pe_lst pa_nil) pa_nil)) rfl)), ?_⟩
    refine ⟨t, dx, rfl, e1, fun H1 N1 tw ⟨fs, f1, f2, f3⟩ k1 n1 => ?_⟩
    refine ⟨(by show 0 ≤ sizeLine; decide), fun a ha => ⟨(by show 1 ≤ sizeLine; decide), fun p hp => ?_⟩⟩
    have hta : t ≠ a := fun e => by rw [← e, f1] at ha; cases ha
    have hp1 : H1 p = none := upd_none hp
    have htp : t ≠ p := fun e => by rw [← e, f1] at hp1; cases hp1
    have hap : a ≠ p := fun e => by
      rw [← e, upd_same] at hp
      cases hp
    obtain ⟨dx2, _, _, _, _, _, z1, _⟩ := tw.ex
    refine ⟨_, rfl, t, C, _, fs, rfl, kep (kep f1 ha) hp, TC.cl, TC.n_leaps, Nat.lt_of_le_of_lt f2 (by decide), ?_⟩
    have k3 : ∀ c u, c ≠ t → H1 c = some u → (upd (upd (upd H1 a (.lst [])) p (.lst [V.ref a])) t (.ins C dx (putF "_leaps" (.ref p) fs))) c = some u := fun c u h z => by
      rw [upd_ne h]
      exact kep (kep z ha) hp
    refine q _ (fun c => N1 c ∧ c ≠ t ∧ H1 c ≠ none ∨ (c = p ∨ c = a)) ⟨_, (fun c => c = p ∨ c = a), dx, p, _, tw.cut.put k3 f1 upd_same ?_ ?_, upd_same, ?_, ⟨[a], ?_, rfl, .inl rfl, fun i b hb => ?_⟩, fun c h1 h2 => ?_, fun c h => .inl h, fun c h => .inr h⟩ (fun c u hc z => k3 _ _ hc (k1 _ _ hc z)) fun c hc => ?_
    · exact Nat.lt_of_le_of_lt (length_putF _ _ _) (by omega)
    · intro m hm
      rw [lookup_putF, if_neg hm]
    · rw [lookup_putF, if_pos rfl]
    · rw [upd_ne htp.symm, upd_same]
      rfl
    · cases i with
      | zero =>
        cases (show some a = some b from hb)
        refine ⟨.inr rfl, hap, [], ?_, fun x hx => nomatch hx⟩
        rw [upd_ne hta.symm, upd_ne hap, upd_same]
        rfl
      | succ i => cases hb
    · rcases h2 with rfl | rfl
      · exact h1.2.2 hp1
      · exact h1.2.2 ha
    · have bk : ∀ c, c ≠ t → H1 c = none → H c = none := fun c hc z => by
        cases z2 : H c with
        | none => rfl
        | some u =>
          rw [k1 _ _ hc z2] at z
          cases z
      rcases hc with hc | rfl | rfl
      · exact n1 _ hc.1
      · exact bk _ htp.symm hp1
      · exact bk _ hta.symm ha
def spGrowL (C : Addr) : Sp := fun vs H Q _ => ∃ (t : Addr) (ow : List Nat) (i : Nat) (N : Addr → Prop), vs = [.ref t, num i] ∧ Lw C N H t ow ∧ i ≤ ow.length ∧ ow.length < 63 ∧
  ∀ (H' : Hp) (N' : Addr → Prop), Lw C N' H' t (ow ++ [i]) → (∀ c u, ¬ N c → H c = some u → H' c = some u) → (∀ c, N' c → N c ∨ H c = none) → Q (num (ow.length + 1)) H'
theorem okL_grow {g : Addr} {fd : FuncData} (T : Txt K mg) (TC : TreeC K C) (m_many : Met P w K mg base 1 C "many" (spMany C) []) (m__need_make : Met P w K mg base 2 C "_need_make" (spNeed C) []) (m__leaps_through : Met P w K mg base 1 C "_leaps_through" (spThrough C) [])
    (F : Fun K "grow" "MakeTree.grow" s_MakeTree_grow g fd) (hb : Binds K fd ["self", "make"] []) (S : SAt P K C "grow" "LeapTree.grow" s_LeapTree_grow ["self", "make"] g) :
    Met P w K mg base 4 C "grow" (spGrowL C) [] := by
  obtain ⟨f, cc, c, oc, od, doc, pm, an, ct, osl, sup, lk, me, bi⟩ := S.ex
  refine ⟨f, _, _, [], TC.cl, me, ?_, bi, .nil⟩
  refine okS_set (i := 3) sup lk ns_grow rfl (fun vs H Q E h => ?_) rfl rfl rfl (fn_grow T TC m_many m__need_make F) hb (by rfl) (fun L => by rfl) (fun L => by rfl) (fun L => by rfl) (fun L => by rfl) ?_
  · obtain ⟨t, ow, i, N, rfl, _⟩ := h
    rfl
  · rintro A outer s H vs Q E hr ⟨t, ow, i, N, rfl, lw, hi, hf, q⟩
    obtain ⟨N1, N2, dx, q0, fs, tw, e1, l1, lv, dis, i1, i2⟩ := lw.ex
    refine ⟨t, dx, fs, E0, _, _, rfl, e1, pass0, (pa_cons (pv 1) pa_nil), (pss_cons (ps_expr (pe_bm PySem.F.plainAttrs_list PySem.F.slot_list_append PySem.F.type_list_append mt_append (pe_fld (pv 0) rfl) (pa_cons (pe_mt m__leaps_through hr (by decide) (pv 0) (pa_cons (pv 1) pa_nil)) pa_nil))) (pss_one (ps_ret (pv 3)))), ?_⟩
    refine ⟨_, rfl, t, ow, i, _, rfl, tw.cut, hi, hf, fun H1 M1 tw1 k1 n1 => ?_⟩
    obtain ⟨ls, e2, hls, Nq, hin⟩ := lv.ex
    have t1 : H1 t = some (.ins C dx fs) := k1 _ _ (fun z => z.2.1 rfl) e1
    have kv : ∀ c u, N2 c → H c = some u → H1 c = some u := fun c u hc z => k1 _ _ (fun y => dis c y.1 hc) z
    have lv1 : Lv N2 H1 q0 (ow.length + 1) := lv.mono (fun _ z => z) kv
    have q1 : H1 q0 = some (.lst (ls.map V.ref)) := kv _ _ Nq e2
    have hqt : q0 ≠ t := fun z => by rw [z, e1] at e2; cases e2
    refine ⟨_, rfl, t, C, dx, fs, .ref q0, rfl, t1, TC.cl, TC.n_leaps, l1, .inl ⟨rfl, _, SqL.of q1⟩, ?_⟩
    obtain ⟨dx2, _, _, _, fs2, _, y1, _, _, _, y5, _⟩ := tw1.ex
    rw [t1] at y1
    cases y1
    refine ⟨_, rfl, t, dx, fs, rfl, t1, y5 _ (by decide), _, rfl, t, dx, q0, fs, _, i, N2, rfl, t1, l1, lv1, by omega, by omega, fun p H2 ks hp sm hk hle => ?_⟩
    have q2 := sm _ _ q1
    have hpq : p ≠ q0 := fun z => by rw [z, q1] at hp; cases hp
    have hpt : p ≠ t := fun z => by rw [z, t1] at hp; cases hp
    have hq3 : (upd H2 q0 (.lst (ls.map V.ref ++ [V.ref p]))) q0 = some (.lst ((ls ++ [p]).map V.ref)) := by
      rw [upd_same, List.map_append]
      rfl
    refine ⟨q0, _, _, rfl, rfl, q2, small1000 (by rw [List.length_map]; omega), ?_⟩
    have k3 : ∀ c u, c ≠ q0 → H1 c = some u → (upd H2 q0 (.lst (ls.map V.ref ++ [V.ref p]))) c = some u := fun c u hc z => by
      rw [upd_ne hc]
      exact sm _ _ z
    have kp3 : (upd H2 q0 (.lst (ls.map V.ref ++ [V.ref p]))) p = some (.lst (ks.map num)) := by
      rw [upd_ne hpq]
      exact hk
    generalize upd H2 q0 (.lst (ls.map V.ref ++ [V.ref p])) = H3 at *
    have nq : ∀ c, M1 c → c ≠ q0 := fun c hc z => by
      subst z
      rcases n1 _ hc with h | h
      · exact dis _ h.1 Nq
      · rw [e2] at h
        cases h
    refine ⟨_, rfl, q _ (fun c => (M1 c ∧ c ≠ t ∧ H1 c ≠ none) ∨ ((N2 c ∧ H c ≠ none) ∨ c = p)) ⟨_, (fun c => (N2 c ∧ H c ≠ none) ∨ c = p), dx, q0, fs, tw1.cut.kp fun c u hc z => ?_, k3 _ _ hqt.symm t1, l1, ⟨ls ++ [p], hq3, ?_, .inl ⟨Nq, fun z => by rw [e2] at z; cases z⟩, fun j b hb => ?_⟩, fun c h1 h2 => ?_, fun c h => .inl h, fun c h => .inr h⟩ (fun c u hc z => ?_) fun c hc => ?_⟩
    · rcases hc with hc | rfl
      · exact k3 _ _ (nq _ hc.1) z
      · exact k3 _ _ hqt.symm z
    · rw [List.length_append, List.length_append, hls]
      rfl
    · by_cases hj : j < ls.length
      · rw [List.getElem?_append_left hj] at hb
        obtain ⟨a1, a2, ks2, a3, a4⟩ := hin j b hb
        exact ⟨.inl ⟨a1, fun z => by rw [a3] at z; cases z⟩, a2, ks2, k3 _ _ a2 (kv _ _ a1 a3), a4⟩
      · rw [List.getElem?_append_right (by omega)] at hb
        by_cases h0 : j - ls.length = 0
        · rw [h0] at hb
          cases (show some p = some b from hb)
          exact ⟨.inr rfl, hpq, ks, kp3, fun x hx => by have := hle x hx; omega⟩
        · rw [List.getElem?_eq_none (by show 1 ≤ _; omega)] at hb
          cases hb
    · rcases h2 with h2 | rfl
      · rcases n1 _ h1.1 with h | h
        · exact dis _ h.1 h2.1
        · exact h2.2 h
      · exact h1.2.2 hp
    · have h1 : ¬ N1 c := fun y => hc (i1 _ y)
      have h2 : ¬ N2 c := fun y => hc (i2 _ y)
      exact k3 _ _ (fun y => h2 (y ▸ Nq)) (k1 _ _ (fun y => h1 y.1) z)
    · rcases hc with hc | hc | rfl
      · rcases n1 _ hc.1 with h | h
        · exact .inl (i1 _ h.1)
        · exact .inr h
      · exact .inl (i2 _ hc.1)
      · by_cases y : N1 c
        · exact .inl (i1 _ y)
        · refine .inr ?_
          cases z2 : H c with
          | none => rfl
          | some u =>
            rw [k1 _ _ (fun x => y x.1) z2] at hp
            cases hp
end
end K6
set_option maxHeartbeats 1000000
namespace K6
open PySem PySem.Spec PyProof.Rows L2 Gd Gs
open C8 (clsBody Met pe_mt pe_mt0)
section
variable {P : Program} {w : World} {K : PySem.W.Frag} {mg : Str → Option Value} {base : Heap} {CM CL : Addr}
theorem ok_cell (T : Txt K mg) (D : DefAt K mg "_law_cell" s__law_cell ["_law_script", "_law_k"]) : CalG P w K mg base 1 "_law_cell" (spCell K) := by
  refine D.cal sc__law_cell (fun vs H Q E h => ?_) (fun f cdv A outer s H vs Q E hG hr h => ?_)
  · obtain ⟨a, ns, k, rfl, _⟩ := h
    rfl
  · obtain ⟨a, ns, k, rfl, hS, hl, hk, q⟩ := h
    refine ⟨_, (pss_cons (ps_if (pt_cmpR op_lt (pv 1) (pe_callB call_len (by rfl) T.b_len boot_len_ (pa_cons (pv 0) pa_nil)) (nomark _))
          (pss_one (ps_ret (pe_ix ix_list (pv 0) (pv 1) (fun _ _ => rfl)))) pss_nil)
      (pss_one (ps_ret (pe_op op_add (pe_op op_mul pe_int (pv 1)) pe_int)))), ?_⟩
    refine ⟨_, rfl, _, rfl, _, _, rfl, .inl ⟨_, hS, rfl⟩, _, _, rfl, rfl, _, rfl, ?_⟩
    refine ite2 (fun e => ?_) (fun e => ?_)
    · have e2 := of_decide_eq_true e
      rw [List.length_map] at e2
      obtain ⟨n, hn⟩ := atI_ints hk e2
      exact ⟨_, rfl, _, rfl, _, _, _, _, rfl, rfl, hS, hn, q n⟩
    · exact ⟨_, rfl, _, _, rfl, rfl, .inl ⟨by decide, by decide⟩, _, _, rfl, rfl, q _⟩
theorem ok_box (T : Txt K mg) (D : DefAt K mg "_law_box" s__law_box ["_law_cell_here"]) : CalG P w K mg base 1 "_law_box" spBox := by
  refine D.cal sc__law_box (fun vs H Q E h => ?_) (fun f cdv A outer s H vs Q E hG hr h => ?_)
  · obtain ⟨n, rfl, _⟩ := h
    rfl
  · obtain ⟨n, rfl, q⟩ := h
    refine ⟨_, (pss_one (ps_ret (pe_lst (pa_cons (pe_callB (call_max2 rfl) (by rfl) T.b_max boot_max_ (pa_cons pe_int (pa_cons (pe_op op_sub (pv 0) (pe_op op_pow pe_int pe_int)) pa_nil))) (pa_cons (pe_op op_mod (pv 0) pe_int) (pa_cons pe_int pa_nil)))))), ?_⟩
    refine ⟨_, rfl, _, _, rfl, rfl, ⟨by decide, by decide, by decide⟩, _, _, rfl, rfl, _, _, rfl, ?_⟩
    refine ⟨_, rfl, _, _, rfl, rfl, (by show (0 : Int) < 2147483629; decide), ?_⟩
    refine ⟨(by show 3 ≤ sizeLine; decide), fun l hl => ?_⟩
    refine q l _ hl ⟨_, _, _, ?_, ?_, ?_, upd_same⟩ fun c hc => upd_ne hc
    · split <;> omega
    · exact Int.emod_nonneg _ (by decide)
    · exact Int.emod_lt_of_pos _ (by decide)
theorem ok_take (T : Txt K mg) (D : DefAt K mg "_law_take" s__law_take ["_law_box_here", "_law_many"]) : CalG P w K mg base 1 "_law_take" spTake := by
  refine D.cal sc__law_take (fun vs H Q E h => ?_) (fun f cdv A outer s H vs Q E hG hr h => ?_)
  · obtain ⟨b, m, rfl, _⟩ := h
    rfl
  · obtain ⟨b, m, rfl, hB, hm0, hm1, q⟩ := h
    obtain ⟨x, y, z, hx, hy0, hy1, hb⟩ := hB
    have hS := SqL.of (K := K) hb
    refine ⟨_, (pss_cons (ps_if (pt_cmpR op_gt (pe_ix ix_list (pv 0) pe_int (fun _ _ => rfl)) pe_int (nomark _))
          (pss_cons (ps_set (i := 2) sc__law_take.nd rfl (Or.inl rfl) (pe_op op_mod (pe_ix ix_list (pv 0) pe_int (fun _ _ => rfl)) (pv 1)))
          (pss_cons (ps_asg (pe_op op_fdiv (pe_ix ix_list (pv 0) pe_int (fun _ _ => rfl)) (pv 1)) (pg_sub (pv 0) pe_int set_list))
          (pss_one (ps_ret (pv 2))))) pss_nil)
      (pss_cons (ps_asg (pe_op op_add (pe_ix ix_list (pv 0) pe_int (fun _ _ => rfl)) pe_int) (pg_sub (pv 0) pe_int set_list))
      (pss_cons (ps_set (i := 3) sc__law_take.nd rfl (Or.inl rfl) (pe_op op_mod (pe_op op_mul (pe_op op_add (pe_ix ix_list (pv 0) pe_int (fun _ _ => rfl)) pe_int) (pe_op op_add (pe_op op_mul pe_int (pe_ix ix_list (pv 0) pe_int (fun _ _ => rfl))) pe_int)) pe_int))
      (pss_cons (ps_set (i := 3) sc__law_take.nd rfl (Or.inl rfl) (pe_op op_mod (pe_op op_pow (pv 3) pe_int) pe_int))
      (pss_one (ps_ret (pe_op op_mod (pe_op op_fdiv (pe_op op_mod (pe_op op_pow (pe_op op_add (pv 3) (pe_op op_fdiv (pe_ix ix_list (pv 0) pe_int (fun _ _ => rfl)) pe_int)) pe_int) pe_int) pe_int) (pv 1)))))))), ?_⟩
    refine ⟨_, rfl, _, _, _, _, rfl, rfl, hS, rfl, _, _, rfl, rfl, _, rfl, ?_⟩
    refine ite2 (fun e => ?_) (fun e => ?_)
    · have e2 := of_decide_eq_true e
      refine ⟨_, rfl, _, _, _, _, rfl, rfl, hS, rfl, _, rfl, _, _, rfl, rfl, hm0, ?_⟩
      refine ⟨_, rfl, _, _, _, _, rfl, rfl, hS, rfl, _, rfl, _, _, rfl, rfl, ⟨hm0, by omega⟩, ?_⟩
      refine ⟨_, rfl, _, _, _, _, rfl, rfl, hb, rfl, ?_⟩
      refine ⟨_, rfl, ?_⟩
      refine q _ _ (Int.emod_nonneg _ (by omega)) (Int.emod_lt_of_pos _ hm0) ⟨_, _, _, ?_, hy0, hy1, upd_same⟩ fun c hc => upd_ne hc
      exact Int.ediv_nonneg (by omega) (by omega)
    · refine ⟨_, rfl, _, _, _, _, rfl, rfl, hS, rfl, _, _, rfl, rfl, ?_⟩
      refine ⟨_, rfl, _, _, _, _, rfl, rfl, hb, rfl, ?_⟩
      have hb1 : (upd H b (.lst [.int x, .int y, .int (z + 1)])) b = some (.lst [.int x, .int y, .int (z + 1)]) := upd_same
      have hS1 := SqL.of (K := K) hb1
      refine ⟨_, rfl, _, _, _, _, rfl, rfl, hS1, rfl, _, _, rfl, rfl, ?_⟩
      refine ⟨_, rfl, _, _, _, _, rfl, rfl, hS1, rfl, _, _, rfl, rfl, .inl ⟨by decide, by decide⟩, _, _, rfl, rfl, ?_⟩
      refine ⟨_, _, rfl, rfl, .inl ⟨by omega, by omega⟩, _, _, rfl, rfl, (by show (0 : Int) < 2147483647; decide), ?_⟩
      generalize hA : (y + 31337) * (2 * (z + 1) + 1) % 2147483647 = A
      have a0 : 0 ≤ A := hA ▸ Int.emod_nonneg _ (by decide)
      have a1 : A < 2147483647 := hA ▸ Int.emod_lt_of_pos _ (by decide)
      clear hA
      refine ⟨_, rfl, _, _, rfl, rfl, ⟨by decide, by decide, by omega⟩, _, _, rfl, rfl, (by show (0 : Int) < 2147483629; decide), ?_⟩
      show _
      generalize hB : A ^ (5 : Int).toNat % 2147483629 = B
      have b0 : 0 ≤ B := hB ▸ Int.emod_nonneg _ (by decide)
      have b1 : B < 2147483629 := hB ▸ Int.emod_lt_of_pos _ (by decide)
      clear hB
      refine ⟨_, rfl, _, rfl, _, _, _, _, rfl, rfl, hS1, rfl, _, _, rfl, rfl, ⟨by decide, by decide⟩, _, _, rfl, rfl, ?_⟩
      have c0 : 0 ≤ y / 65536 := Int.ediv_nonneg hy0 (by decide)
      have c1 : y / 65536 < 65536 := by omega
      refine ⟨_, _, rfl, rfl, ⟨by decide, by decide, by omega⟩, _, _, rfl, rfl, (by show (0 : Int) < 2147483587; decide), ?_⟩
      refine ⟨_, _, rfl, rfl, ⟨by decide, by decide⟩, ?_⟩
      refine ⟨_, rfl, _, _, rfl, rfl, hm0, ?_⟩
      exact q _ _ (Int.emod_nonneg _ (by omega)) (Int.emod_lt_of_pos _ hm0) ⟨_, _, _, hx, hy0, hy1, upd_same⟩ fun c hc => upd_ne hc

def spPick : Sp := fun vs H Q _ => ∃ (b : Addr) (m : Nat), vs = [.ref b, num m] ∧ BoxAt H b ∧ 0 < m ∧ m ≤ 1000000 ∧
  ∀ (d : Nat) (H' : Hp), d < m → BoxAt H' b → Kp b H H' → Q (num d) H'
theorem ok_pick (T : Txt K mg) (c__law_take : CalG P w K mg base 1 "_law_take" spTake) (D : DefAt K mg "_law_pick" s__law_pick ["_law_box_here", "_law_many"]) : CalG P w K mg base 2 "_law_pick" spPick := by
  refine D.cal sc__law_pick (fun vs H Q E h => ?_) (fun f cdv A outer s H vs Q E hG hr h => ?_)
  · obtain ⟨b, m, rfl, _⟩ := h
    rfl
  · obtain ⟨b, m, rfl, hB, hm0, hm1, q⟩ := h
    refine ⟨_, (pss_cons (ps_set (i := 2) sc__law_pick.nd rfl (Or.inl rfl) (pe_g c__law_take hG (hr.mono (by decide)) (by rfl) (pa_cons (pv 0) (pa_cons pe_int pa_nil))))
      (pss_cons (ps_if (pt_cmpR op_eq (pv 2) pe_int (nomark _))
          (pss_one (ps_ret (pe_op op_sub (pv 1) pe_int))) pss_nil)
      (pss_cons (ps_if (pt_cmpR op_eq (pv 2) pe_int (nomark _))
          (pss_one (ps_ret (pe_ix ix_list (pe_lst (pa_cons pe_int (pa_cons (pe_op op_sub (pe_op op_sub (pv 1) pe_int) (pe_g c__law_take hG (hr.mono (by decide)) (by rfl) (pa_cons (pv 0) (pa_cons (pe_callB (call_min2 rfl) (by rfl) T.b_min boot_min_ (pa_cons pe_int (pa_cons (pv 1) pa_nil))) pa_nil)))) pa_nil))) (pe_g c__law_take hG (hr.mono (by decide)) (by rfl) (pa_cons (pv 0) (pa_cons pe_int pa_nil))) (fun _ _ => rfl)))) pss_nil)
      (pss_one (ps_ret (pe_g c__law_take hG (hr.mono (by decide)) (by rfl) (pa_cons (pv 0) (pa_cons (pv 1) pa_nil)))))))), ?_⟩
    refine ⟨_, rfl, b, 4, rfl, hB, by decide, by decide, fun d0 H0 g0 g1 hB0 k0 => ?_⟩
    have K0 := kp_of k0
    refine ⟨_, rfl, rfl, _, rfl, ite2 (fun _ => ?_) (fun _ => ?_)⟩
    · refine ⟨_, rfl, _, _, rfl, rfl, ?_⟩
      have := q (m - 1) H0 (by omega) hB0 K0
      have e : ((m : Int) - 1) = ((m - 1 : Nat) : Int) := by omega
      show Q (.int ((m : Int) - 1)) H0
      rw [e]
      exact this
    · refine ⟨_, rfl, rfl, _, rfl, ite2 (fun _ => ?_) (fun _ => ?_)⟩
      · refine ⟨_, rfl, _, _, rfl, rfl, _, rfl, _, rfl, _, _, rfl, b, _, rfl, hB0, ?_, ?_, fun d1 H1 h0 h1 hB1 k1 => ?_⟩
        · split <;> omega
        · split <;> omega
        have hd1 : d1 < m := by
          revert h1
          split <;> omega
        refine ⟨_, _, rfl, rfl, (by show 2 ≤ sizeLine; decide), fun l hl => ?_⟩
        have hB2 := hB1.upd (o := .lst [.int 0, .int ((m : Int) - 1 - d1)]) hl
        refine ⟨_, rfl, b, 2, rfl, hB2, by decide, by decide, fun d2 H2 j0 j1 hB3 k3 => ?_⟩
        have hL : H2 l = some (.lst [.int 0, .int ((m : Int) - 1 - d1)]) := (k3 l (hB1.ne hl)).trans upd_same
        have K2 : Kp b H H2 := ((K0.trans (kp_of k1)).upd hl).trans (kp_of k3)
        obtain ⟨v, hv, hat⟩ := pickL [.int 0, .int ((m : Int) - 1 - d1)] j0 (by show d2 < ((2 : Nat) : Int); omega)
        refine ⟨l, _, d2, v, rfl, rfl, SqL.of hL, hat, ?_⟩
        simp only [List.mem_cons, List.not_mem_nil, or_false] at hv
        rcases hv with rfl | rfl
        · exact q 0 H2 hm0 hB3 K2
        · have := q (m - 1 - d1.toNat) H2 (by omega) hB3 K2
          have e : ((m : Int) - 1 - d1) = ((m - 1 - d1.toNat : Nat) : Int) := by omega
          rw [e]
          exact this
      · refine ⟨_, rfl, _, rfl, b, m, rfl, hB0, by omega, by omega, fun d1 H1 h0 h1 hB1 k1 => ?_⟩
        have := q d1.toNat H1 (by omega) hB1 (K0.trans (kp_of k1))
        have e : d1 = ((d1.toNat : Nat) : Int) := by omega
        rw [e]
        exact this
/-! ### the trees -/
def RK (CM CL : Addr) (kind : Int) : (Addr → Prop) → Hp → Addr → List Nat → Prop := fun N H t ow => (kind = 1 ∧ Lw CL N H t ow) ∨ (kind ≠ 1 ∧ Tw N H t CM ow)
def spGrowR (R : (Addr → Prop) → Hp → Addr → List Nat → Prop) : Sp := fun vs H Q _ => ∃ (t : Addr) (ow : List Nat) (i : Nat) (N : Addr → Prop), vs = [.ref t, num i] ∧ R N H t ow ∧ i ≤ ow.length ∧ ow.length < 63 ∧
  ∀ (H' : Hp) (N' : Addr → Prop), R N' H' t (ow ++ [i]) → (∀ c u, ¬ N c → H c = some u → H' c = some u) → (∀ c, N' c → N c ∨ H c = none) → Q (num (ow.length + 1)) H'
/-- what is known of the two classes -/
structure Kinds (P : Program) (w : World) (K : PySem.W.Frag) (mg : Str → Option Value) (base : Heap) (CM CL : Addr) : Prop where
  cM : mg "MakeTree" = some (.ref CM)
  cL : mg "LeapTree" = some (.ref CL)
  iM : ∃ (f : Addr) (fd : FuncData), Mk K CM f ∧ Binds K fd ["self"] [] ∧ FnOk P w K mg base CX0 1 f fd ["self"] (spInit CM)
  iL : ∃ (f : Addr) (fd : FuncData), Mk K CL f ∧ Binds K fd ["self"] [] ∧ FnOk P w K mg base CX0 2 f fd ["self"] (spInitL CL)
  gM : Met P w K mg base 3 CM "grow" (spGrow CM) []
  gL : Met P w K mg base 4 CL "grow" (spGrowL CL) []
theorem Kinds.grow (k : Kinds P w K mg base CM CL) (kind : Int) : ∃ C, (C = CM ∨ C = CL) ∧ Met P w K mg base 4 C "grow" (spGrowR (RK CM CL kind)) [] ∧ ∀ N H t ow, RK CM CL kind N H t ow → Tr H t C ow (depths ow) := by
  by_cases h : kind = 1
  · have e : RK CM CL kind = Lw CL := by
      funext N H t ow
      exact propext ⟨fun z => z.elim (fun y => y.2) (fun y => absurd h y.1), fun z => .inl ⟨h, z⟩⟩
    rw [e]
    exact ⟨CL, .inr rfl, k.gL, fun N H t ow z => z.tr⟩
  · have e : RK CM CL kind = fun N H t ow => Tw N H t CM ow := by
      funext N H t ow
      exact propext ⟨fun z => z.elim (fun y => absurd y.1 h) (fun y => y.2), fun z => .inr ⟨h, z⟩⟩
    rw [e]
    obtain ⟨f, fd, ps, ds, a1, a2, a3, a4, a5⟩ := k.gM.ex
    exact ⟨CM, .inl rfl, ⟨f, fd, ps, ds, a1, a2, a3.mono (by decide), a4, a5⟩, fun N H t ow z => z.tr⟩
def spTree (CM CL : Addr) : Sp := fun vs H Q _ => ∃ kind : Int, vs = [.int kind] ∧ ∀ (t : Addr) (H' : Hp) (N' : Addr → Prop), RK CM CL kind N' H' t [] → Same H H' → (∀ c, N' c → H c = none) → H t = none → Q (.ref t) H'
theorem ok_tree (T : Txt K mg) (k : Kinds P w K mg base CM CL) (D : DefAt K mg "_law_tree" s__law_tree ["_law_kind"]) : CalG P w K mg base 4 "_law_tree" (spTree CM CL) := by
  obtain ⟨fL, fdL, M_LeapTree, B_LeapTree, G_LeapTree⟩ := k.iL
  obtain ⟨fM, fdM, M_MakeTree, B_MakeTree, G_MakeTree⟩ := k.iM
  have T : Kinds P w K mg base CM CL := k
  refine D.cal sc__law_tree (fun vs H Q E h => ?_) (fun f cdv A outer s H vs Q E hG hr h => ?_)
  · obtain ⟨kind, rfl, _⟩ := h
    rfl
  · obtain ⟨kind, rfl, q⟩ := h
    refine ⟨_, (pss_one (ps_ret (pe_ifExp (pt_cmpR op_eq (pv 0) pe_int (nomark _)) (pe_make0 M_LeapTree G_LeapTree (hr.mono (by decide)) rfl T.cL B_LeapTree .nil pass0) (pe_make0 M_MakeTree G_MakeTree (hr.mono (by decide)) rfl T.cM B_MakeTree .nil pass0)))), ?_⟩
    have sm : ∀ (t dx C : Addr) (H' : Hp), H t = none → H dx = none → (∀ c u, c ≠ t → (upd (upd H dx (.own t)) t (.ins C dx [])) c = some u → H' c = some u) → Same H H' := fun t dx C H' n1 n2 k c u z =>
      k c u (ne_of_none z n1) (by rw [upd_ne (ne_of_none z n1), upd_ne (ne_of_none z n2)]; exact z)
    refine ⟨_, rfl, rfl, _, rfl, ite2 (fun e => ?_) (fun e => ?_)⟩
    · have e2 : kind = 1 := V.int.inj (of_decide_eq_true e)
      intro t dx n1 n2 ne
      refine ⟨t, dx, rfl, upd_same, fun H' N' lw k1 n3 => ⟨rfl, q t H' N' (.inl ⟨e2, lw⟩) (sm t dx _ H' n1 n2 k1) (fun c hc => upd_none (upd_none (n3 c hc))) n1⟩⟩
    · have e2 : kind ≠ 1 := fun z => e (by rw [z]; exact decide_eq_true rfl)
      intro t dx n1 n2 ne
      refine ⟨t, dx, rfl, upd_same, fun H' N' tw _ k1 n3 => ⟨rfl, q t H' N' (.inr ⟨e2, tw⟩) (sm t dx _ H' n1 n2 k1) (fun c hc => upd_none (upd_none (n3 c hc))) n1⟩⟩
/-! ### the lines, as the law goes them -/
def OwL (H : Hp) (a : Addr) (ow : List Nat) : Prop := H a = some (.lst (.non :: ow.map num))
def spLLine : Sp := fun vs H Q _ => ∃ (a : Addr) (ow : List Nat) (i : Nat), vs = [.ref a, num i] ∧ OwL H a ow ∧ Low ow ∧ ow.length ≤ 63 ∧ i ≤ ow.length ∧
  ∀ (p : Addr) (H' : Hp), H p = none → Same H H' → H' p = some (.lst ((line ow i).map num)) → Q (.ref p) H'
theorem ok_lline (T : Txt K mg) (D : DefAt K mg "_law_line" s__law_line ["_law_owners", "_law_make"]) : CalG P w K mg base 1 "_law_line" spLLine := by
  refine D.cal sc__law_line (fun vs H Q E h => ?_) (fun f cdv A outer s H vs Q E hG hr h => ?_)
  · obtain ⟨a, ow, i, rfl, _⟩ := h
    rfl
  · obtain ⟨a, ow, i, rfl, hO, low, few, hi, q⟩ := h
    refine ⟨_, (pss_cons (ps_set (i := 2) sc__law_line.nd rfl (Or.inl rfl) (pe_lst (pa_cons (pv 1) pa_nil)))
      (pss_cons (ps_while PassesOwn.never (pt_cmpR op_gt (pe_ix ix_list (pv 2) pe_int (fun _ _ => rfl)) pe_int (nomark _))
          (pss_one (ps_set (i := 2) sc__law_line.nd rfl (Or.inl rfl) (pe_op op_cat (pe_lst (pa_cons (pe_ix ix_list (pv 0) (pe_ix ix_list (pv 2) pe_int (fun _ _ => rfl)) (fun _ _ => rfl)) pa_nil)) (pv 2)))))
      (pss_one (ps_ret (pv 2))))), ?_⟩
    refine ⟨_, rfl, (by show 1 ≤ sizeLine; decide), fun l hl => ?_⟩
    refine ⟨fun m σ H' => Same H H' ∧ ∃ (us : List Nat) (p : Addr), σ = [some (.ref a), some (num i), some (.ref p)] ∧ H p = none ∧ H' p = some (.lst ((m :: us).map num)) ∧ line ow m ++ us = line ow i ∧ us.length + m ≤ i, ⟨i, same_new hl, [], l, rfl, hl, upd_same, List.append_nil _, by simp⟩, ?_⟩
    rintro m σ H' ⟨sm, us, p, rfl, np, hL, hli, hle⟩
    refine ⟨_, rfl, p, _, 0, num m, rfl, rfl, SqL.of hL, atI_nat (j := 0) rfl, _, _, rfl, rfl, _, rfl, ?_⟩
    refine ite2 (fun hgt => ?_) (fun hgt => ?_)
    · have hm : 0 < m := by have := of_decide_eq_true hgt; omega
      refine ⟨fun σ' H'' => ∃ m', m' < m ∧ Same H H'' ∧ ∃ (us : List Nat) (p : Addr), σ' = [some (.ref a), some (num i), some (.ref p)] ∧ H p = none ∧ H'' p = some (.lst ((m' :: us).map num)) ∧ line ow m' ++ us = line ow i ∧ us.length + m' ≤ i, fun σ' H'' z => z, ?_⟩
      have hp := par_lt low hm
      refine ⟨_, rfl, _, rfl, p, _, 0, num m, rfl, rfl, SqL.of hL, atI_nat (j := 0) rfl, ?_⟩
      refine ⟨a, _, _, _, rfl, rfl, SqL.of (sm _ _ hO), at_own hm (by omega), ?_⟩
      refine ⟨(by show 1 ≤ sizeLine; decide), fun p1 n1 => ?_⟩
      refine ⟨_, rfl, p1, p, _, _, rfl, rfl, upd_same, kep hL n1, ?_, fun p2 n2 => ?_⟩
      · rw [List.length_map]
        have : 1000 ≤ sizeLine := by decide
        show 1 + (us.length + 1) ≤ sizeLine
        omega
      · refine ⟨par ow m, hp, sm.trans ((same_new n1).trans (same_new n2)), m :: us, p2, rfl, none_of sm (none_of (same_new n1) n2), upd_same, ?_, ?_⟩
        · rw [← hli, line_step low hm, List.append_assoc]
          rfl
        · show us.length + 1 + _ ≤ i
          omega
    · have e : m = 0 := by
        by_cases z : 0 < m
        · exact absurd (decide_eq_true (by show (m : Int) > 0; omega)) hgt
        · omega
      subst e
      refine ⟨_, rfl, q p H' np sm ?_⟩
      rw [hL, ← hli]
      rfl
end
end K6
set_option maxHeartbeats 1000000
namespace K6
open PySem PySem.Spec PyProof.Rows L2 Gd Gs
open C8 (clsBody Met pe_mt pe_mt0)
section
variable {P : Program} {w : World} {K : PySem.W.Frag} {mg : Str → Option Value} {base : Heap} {CM CL : Addr}
/-! ### a tree grown after the law's list -/
theorem Lw.cut {C t : Addr} {N : Addr → Prop} {H : Hp} {ow : List Nat} (l : Lw C N H t ow) : Lw C (fun c => N c ∧ H c ≠ none) H t ow := by
  obtain ⟨N1, N2, dx, q, fs, tw, e1, l1, lv, dis, i1, i2⟩ := l.ex
  obtain ⟨ls, h1, h2, h3, h4⟩ := lv.ex
  refine ⟨_, (fun c => N2 c ∧ H c ≠ none), dx, q, fs, tw.cut, e1, l1, ⟨ls, h1, h2, ⟨h3, fun z => by rw [h1] at z; cases z⟩, fun i a ha => ?_⟩, fun c h1 h2 => dis c h1.1 h2.1, fun c h => ⟨i1 _ h.1, h.2.2⟩, fun c h => ⟨i2 _ h.1, h.2⟩⟩
  obtain ⟨a1, a2, ks, a3, a4⟩ := h4 i a ha
  exact ⟨⟨a1, fun z => by rw [a3] at z; cases z⟩, a2, ks, a3, a4⟩
theorem RK.cut {kind : Int} {t : Addr} {N : Addr → Prop} {H : Hp} {ow : List Nat} (r : RK CM CL kind N H t ow) : RK CM CL kind (fun c => N c ∧ H c ≠ none) H t ow := by
  rcases r with ⟨h, r⟩ | ⟨h, r⟩
  · exact .inl ⟨h, r.cut⟩
  · refine .inr ⟨h, ?_⟩
    obtain ⟨dx, o, d, n, fs, ns, e1, l1, l2, l3, nl, e2, e3, e4, lf, hns, od, on, dn, hin, hnd, No, Nd, Nn⟩ := r.cut.ex
    refine ⟨⟨dx, o, d, n, fs, ns, e1, l1, l2, l3, nl, e2, e3, e4, lf, hns, od, on, dn, fun i a ha => ?_, hnd, ⟨No.1, No.2.2⟩, ⟨Nd.1, Nd.2.2⟩, ⟨Nn.1, Nn.2.2⟩⟩, r.low, r.few⟩
    obtain ⟨h1, a1, a2, a3, a4⟩ := hin i a ha
    exact ⟨h1, a1, a2, a3, a4.1, a4.2.2⟩
theorem RK.same {kind : Int} {t : Addr} {N : Addr → Prop} {H H' : Hp} {ow : List Nat} (r : RK CM CL kind N H t ow) (s : Same H H') : RK CM CL kind N H' t ow := by
  rcases r with ⟨h, r⟩ | ⟨h, r⟩
  · obtain ⟨N1, N2, dx, q, fs, tw, e1, l1, lv, dis, i1, i2⟩ := r.ex
    exact .inl ⟨h, ⟨N1, N2, dx, q, fs, tw.kp fun c u _ z => s c u z, s _ _ e1, l1, lv.mono (fun _ z => z) fun c u _ z => s c u z, dis, i1, i2⟩⟩
  · exact .inr ⟨h, r.kp fun c u _ z => s c u z⟩
theorem RK.kp {kind : Int} {t : Addr} {N : Addr → Prop} {H H' : Hp} {ow : List Nat} (r : RK CM CL kind N H t ow) (k : ∀ c u, (N c ∨ c = t) → H c = some u → H' c = some u) : RK CM CL kind N H' t ow := by
  rcases r with ⟨h, r⟩ | ⟨h, r⟩
  · obtain ⟨N1, N2, dx, q, fs, tw, e1, l1, lv, dis, i1, i2⟩ := r.ex
    exact .inl ⟨h, ⟨N1, N2, dx, q, fs, tw.kp fun c u y z => k c u (y.imp (i1 c) id) z, k _ _ (.inr rfl) e1, l1, lv.mono (fun _ z => z) fun c u y z => k c u (.inl (i2 c y)) z, dis, i1, i2⟩⟩
  · exact .inr ⟨h, r.kp k⟩
theorem RK.tr {kind : Int} {t : Addr} {N : Addr → Prop} {H : Hp} {ow : List Nat} (r : RK CM CL kind N H t ow) : ∃ C, (C = CM ∨ C = CL) ∧ Tr H t C ow (depths ow) := by
  rcases r with ⟨h, r⟩ | ⟨h, r⟩
  · exact ⟨CL, .inr rfl, r.tr⟩
  · exact ⟨CM, .inl rfl, r.tr⟩
end
end K6
set_option maxHeartbeats 1000000
namespace K6
open PySem PySem.Spec PyProof.Rows L2 Gd Gs Gx
open NdefX (NScope nscope_by ncx startF NF)
open C8 (clsBody Met pe_mt pe_mt0)
section
variable {P : Program} {w : World} {K : PySem.W.Frag} {mg : Str → Option Value} {base : Heap} {C CT fT CM CL : Addr}
theorem MAt.metX {m qual : Str} {st : Stmt} {N ps : List Str} {k : Nat} {sp : Sp} (M : MAt K C m qual st ps) (cl : Cls K C) (S : FnScope N ps (defScope st))
    (ar : ∀ vs H Q E, sp vs H Q E → vs.length = ps.length)
    (bd : ∀ (f : Addr) (cdv : Value) (A : Around) (outer : List Env) (s : Shared) (H : Hp) (vs : List V) (Q : VK) (E : XK), Room k (A.deeper (envOfC qual (defScope st) s.heap.objs.size f cdv)) → sp vs H Q E →
      ∃ t, PSs (cxOf (L2.CX P w) P w K mg base N qual (defScope st) f cdv A outer s H E) (defBody st) t ∧ t { nx := fun _ H' => Q .non H', rt := Q } (start N vs) H) : MetX P w K mg base (k + 1) C m sp := by
  obtain ⟨f, fd, F, me, b⟩ := M.ex
  exact ⟨f, fd, ps, cl, me, F.okX S ar (bd f), b⟩
/-- what the written part says of TooMany -/
structure ErrT (P : Program) (K : PySem.W.Frag) (mg : Str → Option Value) (CT fT : Addr) : Prop where
  e_TooMany : Gc.ErrTxt P K CT fT "TooMany.__init__" "there would be too many"
  g_TooMany : mg "TooMany" = some (.ref CT)
  m_TooMany : PySem.W.exmOne K (.ref CT) (.ref CT) = some true
/-- what stands for the own make -/
def ownV (ow : List Nat) (i : Nat) : V := if i = 0 then .non else num (par ow i)
theorem at_any {ow : List Nat} {i : Nat} (h1 : i ≤ ow.length) : atI (V.non :: ow.map num) ((i : Nat) : Int) = some (ownV ow i) := by
  by_cases h0 : 0 < i
  · rw [at_own h0 h1]
    unfold ownV
    rw [if_neg (by omega)]
  · have e : i = 0 := by omega
    subst e
    exact atI_nat (j := 0) rfl
def spOwn (C : Addr) : Sp := fun vs H Q _ => ∃ (t : Addr) (ow ds : List Nat) (i : Nat), vs = [.ref t, num i] ∧ Tr H t C ow ds ∧ i ≤ ow.length ∧ Q (ownV ow i) H
theorem ok_own (T : Txt K mg) (TC : TreeC K C) (m__need_make : Met P w K mg base 2 C "_need_make" (spNeed C) []) (M : MAt K C "own" "MakeTree.own" s_MakeTree_own ["self", "make"]) :
    Met P w K mg base 3 C "own" (spOwn C) [] := by
  refine M.met TC.cl sc_MakeTree_own (fun vs H Q E h => ?_) (fun f cdv A outer s H vs Q E hr h => ?_)
  · obtain ⟨t, ow, ds, i, rfl, _⟩ := h
    rfl
  · obtain ⟨t, ow, ds, i, rfl, tr, hi, q⟩ := h
    obtain ⟨dx, o, d, n, fs, e1, l1, l2, l3, nl, e2, e3, lf⟩ := tr.ex
    refine ⟨_, (pss_cons (ps_expr (pe_mt m__need_make hr (by decide) (pv 0) (pa_cons (pv 1) pa_nil)))
      (pss_one (ps_ret (pe_ix ix_list (pe_fld (pv 0) rfl) (pv 1) (fun _ _ => rfl))))), ?_⟩
    refine ⟨_, rfl, t, dx, fs, rfl, e1, nl _ (by decide), _, rfl, t, ow, ds, i, rfl, tr, hi, ?_⟩
    exact ⟨_, rfl, t, C, dx, fs, .ref o, rfl, e1, TC.cl, TC.n_owns, l1, _, rfl, o, _, _, _, rfl, rfl, SqL.of e2, at_any hi, q⟩
def spDepth (C : Addr) : Sp := fun vs H Q _ => ∃ (t : Addr) (ow ds : List Nat) (i : Nat), vs = [.ref t, num i] ∧ Tr H t C ow ds ∧ i ≤ ow.length ∧ Q (num ((line ow i).length - 1)) H
theorem ok_depth (T : Txt K mg) (TC : TreeC K C) (m__need_make : Met P w K mg base 2 C "_need_make" (spNeed C) []) (M : MAt K C "depth" "MakeTree.depth" s_MakeTree_depth ["self", "make"]) :
    Met P w K mg base 3 C "depth" (spDepth C) [] := by
  refine M.met TC.cl sc_MakeTree_depth (fun vs H Q E h => ?_) (fun f cdv A outer s H vs Q E hr h => ?_)
  · obtain ⟨t, ow, ds, i, rfl, _⟩ := h
    rfl
  · obtain ⟨t, ow, ds, i, rfl, tr, hi, q⟩ := h
    obtain ⟨dx, o, d, n, fs, e1, l1, l2, l3, nl, e2, e3, lf⟩ := tr.ex
    refine ⟨_, (pss_cons (ps_expr (pe_mt m__need_make hr (by decide) (pv 0) (pa_cons (pv 1) pa_nil)))
      (pss_one (ps_ret (pe_ix ix_list (pe_fld (pv 0) rfl) (pv 1) (fun _ _ => rfl))))), ?_⟩
    refine ⟨_, rfl, t, dx, fs, rfl, e1, nl _ (by decide), _, rfl, t, ow, ds, i, rfl, tr, hi, ?_⟩
    exact ⟨_, rfl, t, C, dx, fs, .ref d, rfl, e1, TC.cl, TC.n_depths, l2, _, rfl, d, _, _, _, rfl, rfl, SqL.of e3, (by rw [tr.deep]; exact depths_at hi), q⟩
def spOn (C : Addr) : Sp := fun vs H Q _ => ∃ (t : Addr) (ow : List Nat) (i : Nat) (N : Addr → Prop), vs = [.ref t, num i] ∧ Tw N H t C ow ∧ i ≤ ow.length ∧ ∀ (p : Addr) (H' : Hp), H p = none → Same H H' → H' p = some (.lst ((kids ow i).map num)) → Q (.ref p) H'
theorem ok_on (T : Txt K mg) (TC : TreeC K C) (m__need_make : Met P w K mg base 2 C "_need_make" (spNeed C) []) (M : MAt K C "on" "MakeTree.on" s_MakeTree_on ["self", "make"]) :
    Met P w K mg base 3 C "on" (spOn C) [] := by
  refine M.met TC.cl sc_MakeTree_on (fun vs H Q E h => ?_) (fun f cdv A outer s H vs Q E hr h => ?_)
  · obtain ⟨t, ow, i, N, rfl, _⟩ := h
    rfl
  · obtain ⟨t, ow, i, N, rfl, tw, hi, q⟩ := h
    obtain ⟨dx, o, d, n, fs, ns, e1, l1, l2, l3, nl, e2, e3, e4, lf, hns, od, on, dn, hin, hnd, No, Nd, Nn⟩ := tw.ex
    have hi2 : i < ns.length := by omega
    obtain ⟨b, hb⟩ : ∃ b, ns[i]? = some b := ⟨_, List.getElem?_eq_getElem hi2⟩
    obtain ⟨hks, _⟩ := hin i b hb
    have hat : atI (ns.map V.ref) ((i : Nat) : Int) = some (V.ref b) := by
      refine atI_nat ?_
      rw [List.getElem?_map, hb]
      rfl
    refine ⟨_, (pss_cons (ps_expr (pe_mt m__need_make hr (by decide) (pv 0) (pa_cons (pv 1) pa_nil)))
      (pss_one (ps_ret (pe_callTy call_list_of (by rfl) T.t_list boot_list_ (pa_cons (pe_ix ix_list (pe_fld (pv 0) rfl) (pv 1) (fun _ _ => rfl)) pa_nil))))), ?_⟩
    refine ⟨_, rfl, t, dx, fs, rfl, e1, nl _ (by decide), _, rfl, t, ow, _, i, rfl, tw.tr, hi, ?_⟩
    refine ⟨_, rfl, t, C, dx, fs, .ref n, rfl, e1, TC.cl, TC.n_on, l3, _, rfl, n, _, _, _, rfl, rfl, SqL.of e4, hat, ?_⟩
    refine ⟨b, _, rfl, .inl (SqL.of hks), fun p hp => ?_⟩
    exact q p _ hp (same_new hp) upd_same
end
end K6
set_option maxHeartbeats 1000000
namespace K6
open PySem PySem.Spec PyProof.Rows L2 Gd Gs Gx
open NdefX (NScope nscope_by ncx startF NF)
open C8 (clsBody Met pe_mt pe_mt0)
section
variable {P : Program} {w : World} {K : PySem.W.Frag} {mg : Str → Option Value} {base : Heap} {C CT fT CM CL : Addr}
def spFull (CT C : Addr) : Sp := fun vs H Q E => ∃ (t : Addr) (ow ds : List Nat) (i : Nat), vs = [.ref t, num i] ∧ Tr H t C ow ds ∧ i ≤ ow.length ∧ ow.length = 63 ∧ ∀ a, H a = none → E (.ref CT) (some a) (upd H a (.xd [("count", .int 65)]))
theorem fn_full {f : Addr} {fd : FuncData} (T : Txt K mg) (R : ErrT P K mg CT fT) (TC : TreeC K C) (m_many : Met P w K mg base 1 C "many" (spMany C) []) (m__need_make : Met P w K mg base 2 C "_need_make" (spNeed C) []) (F : Fun K "grow" "MakeTree.grow" s_MakeTree_grow f fd) :
    FnOk P w K mg base (L2.CX P w) 3 f fd ["self", "make"] (spFull CT C) := by
  refine F.okX sc_MakeTree_grow (fun vs H Q E h => ?_) (fun cdv A outer s H vs Q E hr h => ?_)
  · obtain ⟨t, ow, ds, i, rfl, _⟩ := h
    rfl
  · obtain ⟨t, ow, ds, i, rfl, tr, hi, hf, q⟩ := h
    obtain ⟨dx, o, d, n, fs, e1, l1, l2, l3, nl, e2, e3, lf⟩ := tr.ex
    refine ⟨_, (pss_cons (ps_expr (pe_mt m__need_make hr (by decide) (pv 0) (pa_cons (pv 1) pa_nil)))
      (pss_cons (ps_set (i := 2) sc_MakeTree_grow.nd rfl (Or.inl rfl) (pe_mt0 m_many hr (by decide) (pv 0)))
      (pss_cons (ps_if (pt_cmpR op_ge (pv 2) (pe_gi rfl T.g_MOST_MAKES) (nomark _))
          (pss_one (Gc.ps_raiseE rfl R.e_TooMany R.g_TooMany hr (takes_of rfl rfl rfl rfl) (by exact (pa_cons (pe_op op_add (pv 2) pe_int) pa_nil)) (by rfl))) pss_nil)
      (pss_cons (ps_expr (pe_bm PySem.F.plainAttrs_list PySem.F.slot_list_append PySem.F.type_list_append mt_append (pe_fld (pv 0) rfl) (pa_cons (pv 1) pa_nil)))
      (pss_cons (ps_expr (pe_bm PySem.F.plainAttrs_list PySem.F.slot_list_append PySem.F.type_list_append mt_append (pe_fld (pv 0) rfl) (pa_cons (pe_op op_add (pe_ix ix_list (pe_fld (pv 0) rfl) (pv 1) (fun _ _ => rfl)) pe_int) pa_nil)))
      (pss_cons (ps_expr (pe_bm PySem.F.plainAttrs_list PySem.F.slot_list_append PySem.F.type_list_append mt_append (pe_fld (pv 0) rfl) (pa_cons (pe_lst pa_nil) pa_nil)))
      (pss_cons (ps_expr (pe_bm PySem.F.plainAttrs_list PySem.F.slot_list_append PySem.F.type_list_append mt_append (pe_ix ix_list (pe_fld (pv 0) rfl) (pv 1) (fun _ _ => rfl)) (pa_cons (pv 2) pa_nil)))
      (pss_one (ps_ret (pv 2)))))))))), ?_⟩
    refine ⟨_, rfl, t, dx, fs, rfl, e1, nl _ (by decide), _, rfl, t, ow, _, i, rfl, tr, hi, ?_⟩
    refine ⟨_, rfl, t, dx, fs, rfl, e1, nl _ (by decide), t, ow, _, rfl, tr, ?_⟩
    refine ⟨_, rfl, _, _, rfl, rfl, _, rfl, ?_⟩
    rw [hf, show decide ((64 : Int) ≤ ((63 + 1 : Nat) : Int)) = true from by decide]
    exact iteT ⟨_, rfl, _, _, rfl, rfl, .int 65, rfl, q⟩
theorem ok_full (T : Txt K mg) (R : ErrT P K mg CT fT) (TC : TreeC K C) (m_many : Met P w K mg base 1 C "many" (spMany C) []) (m__need_make : Met P w K mg base 2 C "_need_make" (spNeed C) []) (M : MAt K C "grow" "MakeTree.grow" s_MakeTree_grow ["self", "make"]) :
    MetX P w K mg base 4 C "grow" (spFull CT C) := by
  obtain ⟨f, fd, F, me, b⟩ := M.ex
  exact ⟨f, fd, _, TC.cl, me, (fn_full T R TC m_many m__need_make F).mono (by decide), b⟩
theorem okL_full {g : Addr} {fd : FuncData} (T : Txt K mg) (R : ErrT P K mg CT fT) (TC : TreeC K C) (m_many : Met P w K mg base 1 C "many" (spMany C) []) (m__need_make : Met P w K mg base 2 C "_need_make" (spNeed C) []) (m__leaps_through : Met P w K mg base 1 C "_leaps_through" (spThrough C) [])
    (F : Fun K "grow" "MakeTree.grow" s_MakeTree_grow g fd) (hb : Binds K fd ["self", "make"] []) (S : SAt P K C "grow" "LeapTree.grow" s_LeapTree_grow ["self", "make"] g) :
    MetX P w K mg base 4 C "grow" (spFull CT C) := by
  obtain ⟨f, cc, c, oc, od, doc, pm, an, ct, osl, sup, lk, me, bi⟩ := S.ex
  refine ⟨f, _, _, TC.cl, me, ?_, bi⟩
  refine okS_set (i := 3) sup lk ns_grow rfl (fun vs H Q E h => ?_) rfl rfl rfl (fn_full T R TC m_many m__need_make F) hb (by rfl) (fun L => by rfl) (fun L => by rfl) (fun L => by rfl) (fun L => by rfl) ?_
  · obtain ⟨t, ow, ds, i, rfl, _⟩ := h
    rfl
  · rintro A outer s H vs Q E hr ⟨t, ow, ds, i, rfl, tr, hi, hf, q⟩
    obtain ⟨dx, o, d, n, fs, e1, l1, l2, l3, nl, e2, e3, lf⟩ := tr.ex
    refine ⟨t, dx, fs, E, _, _, rfl, e1, passes_call (takes_of rfl rfl rfl rfl) (fun _ _ _ _ h => h), (pa_cons (pv 1) pa_nil), (pss_cons (ps_expr (pe_bm PySem.F.plainAttrs_list PySem.F.slot_list_append PySem.F.type_list_append mt_append (pe_fld (pv 0) rfl) (pa_cons (pe_mt m__leaps_through hr (by decide) (pv 0) (pa_cons (pv 1) pa_nil)) pa_nil))) (pss_one (ps_ret (pv 3)))), ?_⟩
    exact ⟨_, rfl, t, ow, ds, i, rfl, tr, hi, hf, q⟩
/-! ### copies -/
def spAlike (C : Addr) (R : (Addr → Prop) → Hp → Addr → List Nat → Prop) : Sp := fun vs H Q _ => ∃ (t u : Addr) (ow : List Nat) (N : Addr → Prop) (H0 : Hp), vs = [.ref t, .ref u] ∧ Same H0 H ∧ Tr H0 t C ow (depths ow) ∧ R N H u [] ∧ (∀ c, N c → H0 c = none) ∧ H0 u = none ∧
  ∀ (H' : Hp) (N' : Addr → Prop), R N' H' u ow → (∀ c, N' c → H0 c = none) → Same H0 H' → Q (.ref u) H'
/-- what a reading of trees must give -/
structure Rd (C : Addr) (R : (Addr → Prop) → Hp → Addr → List Nat → Prop) : Prop where
  tr : ∀ N H t ow, R N H t ow → Tr H t C ow (depths ow)
  cut : ∀ N H t ow, R N H t ow → R (fun c => N c ∧ H c ≠ none) H t ow
  same : ∀ N H H' t ow, R N H t ow → Same H H' → R N H' t ow
theorem ok_alike {R : (Addr → Prop) → Hp → Addr → List Nat → Prop} (TC : TreeC K C) (rd : Rd C R) (m_grow : Met P w K mg base 4 C "grow" (spGrowR R) []) (M : MAt K C "_grown_alike" "MakeTree._grown_alike" s_MakeTree__grown_alike ["self", "other"]) :
    Met P w K mg base 5 C "_grown_alike" (spAlike C R) [] := by
  refine M.met TC.cl sc_MakeTree__grown_alike (fun vs H Q E h => ?_) (fun f cdv A outer s H vs Q E hr h => ?_)
  · obtain ⟨t, u, ow, N, H0, rfl, _⟩ := h
    rfl
  · obtain ⟨t, u, ow, N0, H0, rfl, s0, tr0, rk, fr0, nu, q⟩ := h
    obtain ⟨dx0, o0, d0, n0, fs0, e1, l1, l2, l3, nl0, e2, e3, lf⟩ := (tr0.same s0).ex
    refine ⟨_, (pss_cons (ps_for PassesOwn.never rfl (pi_list (pe_slice sl_list (pe_fld (pv 0) rfl) (po_some pe_int) po_none)) (pg_name (i := 2) sc_MakeTree__grown_alike.nd rfl (Or.inl rfl))
          (pss_one (ps_expr (pe_mt m_grow hr (by decide) (pv 1) (pa_cons (pv 2) pa_nil)))))
      (pss_one (ps_ret (pv 1)))), ?_⟩
    refine ⟨_, rfl, t, C, dx0, fs0, .ref o0, rfl, e1, TC.cl, TC.n_owns, l1, _, rfl, o0, _, rfl, SqL.of e2, fun p hp => ?_⟩
    rw [show (some (1 : Int)) = some (((1 : Nat) : Int)) from rfl, cut_from, List.drop_one, List.tail_cons]
    refine ⟨p, rfl, ⟨_, SqL.of upd_same⟩, ?_⟩
    refine for_list (K := K) (a := p) (xs := ow.map num) (fun i σ H' => Same H0 H' ∧ H' p = some (.lst (ow.map num)) ∧ ∃ (N : Addr → Prop) (y : Option V), σ = [some (.ref t), some (.ref u), y] ∧ R N H' u (ow.take i) ∧ ¬ N p ∧ (∀ c, N c → H0 c = none))
      ⟨s0.trans (same_new hp), upd_same, (fun c => N0 c ∧ H c ≠ none), none, rfl, rd.same _ _ _ _ _ (rd.cut _ _ _ _ rk) (same_new hp), fun z => z.2 hp, fun c z => fr0 c z.1⟩ (fun i σ H' _ hP => SqL.of hP.2.1) (fun i x σ H2 hi hP => ?_) (fun σ H' hP => ?_)
    · obtain ⟨sm, hp2, N, y, rfl, rk2, nN, fr⟩ := hP
      rw [List.getElem?_map] at hi
      cases hj : ow[i]? with
      | none =>
        rw [hj] at hi
        cases hi
      | some j =>
        rw [hj] at hi
        cases (show some (num j) = some x from hi)
        have hlen : i < ow.length := by
          by_cases z : i < ow.length
          · exact z
          · rw [List.getElem?_eq_none (by omega)] at hj
            cases hj
        have tr := rd.tr _ _ _ _ rk2
        have few := tr0.few
        obtain ⟨dx, o, d, n, fs, e1, l1, l2, l3, nl, _⟩ := tr.ex
        have hlt : (ow.take i).length = i := by rw [List.length_take]; omega
        refine ⟨_, rfl, u, dx, fs, rfl, e1, nl _ (by decide), _, rfl, u, ow.take i, j, N, rfl, rk2, ?_, by omega, fun H3 N3 rk3 k3 n3 => ?_⟩
        · rw [hlt]
          exact tr0.low _ _ hj
        · refine ⟨fun c v z => k3 _ _ (fun y => by rw [fr _ y] at z; cases z) (sm _ _ z), k3 _ _ nN hp2, N3, _, rfl, ?_, fun z => ?_, fun c z => ?_⟩
          · rw [List.take_add_one, hj]
            exact rk3
          · rcases n3 _ z with h | h
            · exact nN h
            · rw [hp2] at h
              cases h
          · rcases n3 _ z with h | h
            · exact fr _ h
            · exact none_of sm h
    · obtain ⟨sm, hp2, N, y, rfl, rk2, nN, fr⟩ := hP
      have e : ow.take (ow.map num).length = ow := by
        rw [List.length_map]
        exact List.take_length
      rw [e] at rk2
      exact ⟨_, rfl, q H' N rk2 fr sm⟩
def spCopied (C : Addr) (R : (Addr → Prop) → Hp → Addr → List Nat → Prop) : Sp := fun vs H Q _ => ∃ (t : Addr) (ow : List Nat), vs = [.ref t] ∧ Tr H t C ow (depths ow) ∧
  ∀ (u : Addr) (H' : Hp) (N' : Addr → Prop), H u = none → R N' H' u ow → (∀ c, N' c → H c = none) → Same H H' → Q (.ref u) H'
theorem made_same {H H' : Hp} {t dx C : Addr} (n1 : H t = none) (n2 : H dx = none) (k : ∀ c u, c ≠ t → (upd (upd H dx (.own t)) t (.ins C dx [])) c = some u → H' c = some u) : Same H H' := fun c u z =>
  k c u (ne_of_none z n1) (by rw [upd_ne (ne_of_none z n1), upd_ne (ne_of_none z n2)]; exact z)
theorem ok_copiedM {fM : Addr} {fdM : FuncData} (TC : TreeC K C) (cM : mg "MakeTree" = some (.ref C)) (M_MakeTree : Mk K C fM) (B_MakeTree : Binds K fdM ["self"] []) (G_MakeTree : FnOk P w K mg base CX0 1 fM fdM ["self"] (spInit C))
    (m__grown_alike : Met P w K mg base 5 C "_grown_alike" (spAlike C fun N H t ow => Tw N H t C ow) []) (M : MAt K C "copied" "MakeTree.copied" s_MakeTree_copied ["self"]) : Met P w K mg base 6 C "copied" (spCopied C fun N H t ow => Tw N H t C ow) [] := by
  refine M.met TC.cl sc_MakeTree_copied (fun vs H Q E h => ?_) (fun f cdv A outer s H vs Q E hr h => ?_)
  · obtain ⟨t, ow, rfl, _⟩ := h
    rfl
  · obtain ⟨t, ow, rfl, tr, q⟩ := h
    obtain ⟨dx, o, d, n, fs, e1, l1, l2, l3, nl, e2, e3, lf⟩ := tr.ex
    refine ⟨_, (pss_one (ps_ret (pe_mt m__grown_alike hr (by decide) (pv 0) (pa_cons (pe_make0 M_MakeTree G_MakeTree (hr.mono (by decide)) rfl cM B_MakeTree .nil pass0) pa_nil)))), ?_⟩
    refine ⟨_, rfl, t, dx, fs, rfl, e1, nl _ (by decide), ?_⟩
    intro u du n1 n2 ne
    refine ⟨u, du, rfl, upd_same, fun H1 N1 tw _ k1 f1 => ⟨rfl, ?_⟩⟩
    have sm := made_same n1 n2 k1
    exact ⟨t, u, ow, N1, H, rfl, sm, tr, tw, fun c hc => upd_none (upd_none (f1 c hc)), n1, fun H' N' r f s => q u H' N' n1 r f s⟩
theorem ok_copiedL {fL : Addr} {fdL : FuncData} (TC : TreeC K C) (cL : mg "LeapTree" = some (.ref C)) (M_LeapTree : Mk K C fL) (B_LeapTree : Binds K fdL ["self"] []) (G_LeapTree : FnOk P w K mg base CX0 2 fL fdL ["self"] (spInitL C))
    (m__grown_alike : Met P w K mg base 5 C "_grown_alike" (spAlike C (Lw C)) []) (M : MAt K C "copied" "LeapTree.copied" s_LeapTree_copied ["self"]) : Met P w K mg base 6 C "copied" (spCopied C (Lw C)) [] := by
  refine M.met TC.cl sc_LeapTree_copied (fun vs H Q E h => ?_) (fun f cdv A outer s H vs Q E hr h => ?_)
  · obtain ⟨t, ow, rfl, _⟩ := h
    rfl
  · obtain ⟨t, ow, rfl, tr, q⟩ := h
    obtain ⟨dx, o, d, n, fs, e1, l1, l2, l3, nl, e2, e3, lf⟩ := tr.ex
    refine ⟨_, (pss_one (ps_ret (pe_mt m__grown_alike hr (by decide) (pv 0) (pa_cons (pe_make0 M_LeapTree G_LeapTree (hr.mono (by decide)) rfl cL B_LeapTree .nil pass0) pa_nil)))), ?_⟩
    refine ⟨_, rfl, t, dx, fs, rfl, e1, nl _ (by decide), ?_⟩
    intro u du n1 n2 ne
    refine ⟨u, du, rfl, upd_same, fun H1 N1 tw k1 f1 => ⟨rfl, ?_⟩⟩
    have sm := made_same n1 n2 k1
    exact ⟨t, u, ow, N1, H, rfl, sm, tr, tw, fun c hc => upd_none (upd_none (f1 c hc)), n1, fun H' N' r f s => q u H' N' n1 r f s⟩
end
end K6
set_option maxHeartbeats 1000000
namespace K6
open PySem PySem.Spec PyProof.Rows L2 Gd Gs Gx
open C8 (clsBody Met pe_mt pe_mt0)
section
variable {P : Program} {w : World} {K : PySem.W.Frag} {mg : Str → Option Value} {base : Heap} {CT fT CM CL : Addr}
theorem numsD {H : Hp} : ∀ xs : List Nat, DpAll K H (xs.map num) (xs.map fun n => PyData.int (n : Nat))
  | [] => .nil
  | _ :: r => .cons (.int _) (numsD r)
theorem numOk {n : Nat} (h : n ≤ 1000) : Okd (.int (n : Nat)) 50 0 := okInt ⟨by
  have : (0 : Int) ≤ 10 ^ 40 := by decide
  omega, by
  have : (1000 : Int) ≤ 10 ^ 40 := by decide
  omega⟩
theorem numsOk {xs : List Nat} (h : ∀ x ∈ xs, x ≤ 1000) (l : xs.length ≤ 200) : Okd (.list (xs.map fun n => PyData.int (n : Nat))) 20000 1 := by
  refine (okList (m := 50) (e := 0) (n := 200) (fun d hd => ?_) ?_).up (by decide) (by decide)
  · obtain ⟨x, hx, rfl⟩ := List.mem_map.mp hd
    exact numOk (h x hx)
  · rw [List.length_map]
    exact l
/-- what is asked of both classes -/
structure Asks (P : Program) (w : World) (K : PySem.W.Frag) (mg : Str → Option Value) (base : Heap) (CM CL CT : Addr) : Prop where
  ask : ∀ C, C = CM ∨ C = CL → Met P w K mg base 1 C "many" (spMany C) [] ∧ Met P w K mg base 3 C "own" (spOwn C) [] ∧ Met P w K mg base 3 C "depth" (spDepth C) [] ∧ Met P w K mg base 3 C "on" (spOn C) [] ∧ MetX P w K mg base 4 C "grow" (spFull CT C)
  cpM : Met P w K mg base 6 CM "copied" (spCopied CM fun N H t ow => Tw N H t CM ow) []
  cpL : Met P w K mg base 6 CL "copied" (spCopied CL (Lw CL)) []
theorem RK.tw {kind : Int} {t : Addr} {N : Addr → Prop} {H : Hp} {ow : List Nat} (r : RK CM CL kind N H t ow) : ∃ C N1, (C = CM ∨ C = CL) ∧ Tw N1 H t C ow := by
  rcases r with ⟨h, r⟩ | ⟨h, r⟩
  · obtain ⟨N1, _, _, _, _, tw, _⟩ := r.ex
    exact ⟨CL, N1, .inr rfl, tw⟩
  · exact ⟨CM, N, .inl rfl, r⟩
theorem own_data {ow : List Nat} {i : Nat} (low : Low ow) (h : i ≤ 63) : ∃ d, (∀ H, Dp K H (ownV ow i) d) ∧ Okd d 50 0 := by
  unfold ownV
  by_cases e : i = 0
  · rw [if_pos e]
    exact ⟨.none, fun _ => .non, okNone.up (by decide) (by decide)⟩
  · rw [if_neg e]
    have := par_lt low (by omega : 0 < i)
    exact ⟨.int _, fun _ => .int _, numOk (by omega)⟩
theorem own_flat {ow : List Nat} {i : Nat} : flatV (ownV ow i) = true := by
  unfold ownV
  split <;> rfl
def kidsTo (ow : List Nat) (i m : Nat) : List Nat := (List.range m).filter fun n => decide (1 ≤ n ∧ ow[n - 1]? = some i)
theorem kidsTo_step (ow : List Nat) (i m : Nat) : kidsTo ow i (m + 1) = kidsTo ow i m ++ if (1 ≤ m ∧ ow[m - 1]? = some i) then [m] else [] := by
  unfold kidsTo
  rw [List.range_succ, List.filter_append]
  congr 1
  rw [List.filter_cons, List.filter_nil]
  by_cases e : 1 ≤ m ∧ ow[m - 1]? = some i
  · rw [if_pos e, if_pos (decide_eq_true e)]
  · rw [if_neg e, if_neg (by rw [decide_eq_false e]; decide)]
theorem kidsTo_all (ow : List Nat) (i : Nat) : kidsTo ow i (ow.length + 1) = kids ow i := by
  unfold kidsTo kids
  rw [List.range_succ_eq_map, List.filter_cons, if_neg (by simp), List.filter_map]
  congr 1
  refine List.filter_congr fun n _ => ?_
  show decide (1 ≤ n + 1 ∧ ow[n + 1 - 1]? = some i) = decide (ow[n]? = some i)
  rw [Nat.add_sub_cancel]
  by_cases e : ow[n]? = some i
  · rw [decide_eq_true e, decide_eq_true ⟨by omega, e⟩]
  · rw [decide_eq_false e, decide_eq_false fun z => e z.2]
theorem kidsTo_len (ow : List Nat) (i m : Nat) : (kidsTo ow i m).length ≤ m := by
  unfold kidsTo
  have := List.length_filter_le (fun n => decide (1 ≤ n ∧ ow[n - 1]? = some i)) (List.range m)
  rw [List.length_range] at this
  exact this
theorem own_test {ow : List Nat} {n i : Nat} (h : n ≤ ow.length) : decide (ownV ow n = num i) = decide (1 ≤ n ∧ ow[n - 1]? = some i) := by
  unfold ownV
  by_cases e : n = 0
  · rw [if_pos e, decide_eq_false (fun z => nomatch z), decide_eq_false (by omega)]
  · rw [if_neg e]
    have hn : n - 1 < ow.length := by omega
    have e2 : ow[n - 1]? = some (par ow n) := by
      unfold par
      rw [List.getD_eq_getElem?_getD, List.getElem?_eq_getElem hn]
      rfl
    rw [e2]
    by_cases e3 : par ow n = i
    · rw [e3, decide_eq_true rfl, decide_eq_true ⟨by omega, rfl⟩]
    · rw [decide_eq_false (fun z => e3 (by have := V.int.inj z; omega)), decide_eq_false (fun z => e3 (Option.some.inj z.2))]
def spMR (CM CL : Addr) : Sp := fun vs H Q _ => ∃ (t a : Addr) (kind : Int) (N : Addr → Prop) (ow : List Nat) (i : Nat), vs = [.ref t, .ref a, num i] ∧ RK CM CL kind N H t ow ∧ OwL H a ow ∧ i ≤ ow.length ∧ ∀ H', Same H H' → Q (.bl true) H'
theorem ok_mr (T : Txt K mg) (k : Asks P w K mg base CM CL CT) (c__law_line : CalG P w K mg base 1 "_law_line" spLLine) (D : DefAt K mg "_law_make_right" s__law_make_right ["_law_tree_here", "_law_owners", "_law_make"]) : CalG P w K mg base 4 "_law_make_right" (spMR CM CL) := by
  refine D.cal sc__law_make_right (fun vs H Q E h => ?_) (fun f cdv A outer s H vs Q E hG hr h => ?_)
  · obtain ⟨t, a, kind, N, ow, i, rfl, _⟩ := h
    rfl
  · obtain ⟨t, a, kind, N, ow, i, rfl, rk, hO, hi, q⟩ := h
    obtain ⟨C, N1, hC, tw⟩ := rk.tw
    obtain ⟨m_many, m_own, m_depth, m_on, _⟩ := k.ask C hC
    have tr := tw.tr
    have low : Low ow := tr.low
    have few := tr.few
    obtain ⟨dx, o, de, n, fs, e1, l1, l2, l3, nl, e2, e3, lf⟩ := tr.ex
    have ll := line_len low i
    have hlen : (V.non :: ow.map num).length = ow.length + 1 := by rw [List.length_cons, List.length_map]
    obtain ⟨d0, hd0, ok0⟩ := own_data (K := K) (i := i) low (by omega)
    have okd : Okd (.int (((line ow i).length - 1 : Nat))) 50 0 := numOk (by omega)
    have kl := kids_len ow i
    have okk := numsOk (xs := kids ow i) (fun x hx => by
      unfold kids at hx
      obtain ⟨y, hy, rfl⟩ := List.mem_map.mp hx
      have := List.mem_range.mp (List.mem_filter.mp hy).1
      omega) (by omega)
    refine ⟨_, (pss_cons (ps_if (PW.pt (pw_or (pt_cmpR op_ne (pe_callB (call_repr hG (hu64 hr)) (by rfl) T.b_repr boot_repr_ (pa_cons (pe_mt m_own hr (by decide) (pv 0) (pa_cons (pv 2) pa_nil)) pa_nil)) (pe_callB (call_repr hG (hu64 hr)) (by rfl) T.b_repr boot_repr_ (pa_cons (pe_ix ix_list (pv 1) (pv 2) (fun _ _ => rfl)) pa_nil)) (nomark _)) (pw_or1 (pt_cmpR op_ne (pe_callB (call_repr hG (hu64 hr)) (by rfl) T.b_repr boot_repr_ (pa_cons (pe_mt m_depth hr (by decide) (pv 0) (pa_cons (pv 2) pa_nil)) pa_nil)) (pe_callB (call_repr hG (hu64 hr)) (by rfl) T.b_repr boot_repr_ (pa_cons (pe_op op_sub (pe_callB call_len (by rfl) T.b_len boot_len_ (pa_cons (pe_g c__law_line hG (hr.mono (by decide)) (by rfl) (pa_cons (pv 1) (pa_cons (pv 2) pa_nil))) pa_nil)) pe_int) pa_nil)) (nomark _)))))
          (pss_one (ps_ret pe_bl)) pss_nil)
      (pss_cons (ps_setLc (i := 3) (own := [("_law_number", 6)]) (g := gName 6) (tt := _) rfl sc__law_make_right.nd rfl rfl (sw_true rfl rfl rfl (by decide +kernel)) (pi_range1 rfl T.b_range (pa_cons (pe_callB call_len (by rfl) T.b_len boot_len_ (pa_cons (pv 1) pa_nil)) pa_nil)) (blkOk_by (own := [("_law_number", 6)]) (N := ["_law_tree_here", "_law_owners", "_law_make", "_law_due", "_law_turn", "_law_found", "_law_number"]) (sc := defScope s__law_make_right) (by decide +kernel)) (fun _ _ _ _ _ => pg_name (i := 6) sc__law_make_right.nd rfl (Or.inl rfl)) (fun _ _ _ _ _ => (pts_one (pt_cmpR op_eq (pe_ix (show IxR _ (rIxL K) from ix_list) (pv 1) (pv 6) (fun _ _ => rfl)) (pv 2) (nomark _)))) (fun _ _ _ _ _ => (pv 6)))
      (pss_cons (ps_for PassesOwn.never rfl (pi_range1 rfl T.b_range (pa_cons pe_int pa_nil)) (pg_name (i := 4) sc__law_make_right.nd rfl (Or.inl rfl))
          (pss_cons (ps_set (i := 5) sc__law_make_right.nd rfl (Or.inl rfl) (pe_mt m_on hr (by decide) (pv 0) (pa_cons (pv 2) pa_nil)))
          (pss_cons (ps_if (pt_cmpR op_ne (pe_callB (call_repr hG (hu64 hr)) (by rfl) T.b_repr boot_repr_ (pa_cons (pv 5) pa_nil)) (pe_callB (call_repr hG (hu64 hr)) (by rfl) T.b_repr boot_repr_ (pa_cons (pv 3) pa_nil)) (nomark _))
              (pss_one (ps_ret pe_bl)) pss_nil)
          (pss_one (ps_expr (pe_bm PySem.F.plainAttrs_list PySem.F.slot_list_append PySem.F.type_list_append mt_append (pv 5) (pa_cons pe_int pa_nil)))))))
      (pss_one (ps_ret pe_bl))))), ?_⟩
    refine ⟨_, rfl, t, dx, fs, rfl, e1, nl _ (by decide), _, rfl, t, ow, depths ow, i, rfl, tr, hi, ?_⟩
    refine ⟨_, d0, rfl, .d1 (.dp (hd0 _)), ok0.sh, Nat.le_trans ok0.ln (by decide), Nat.le_trans ok0.dp (by decide), ?_⟩
    refine ⟨_, rfl, _, rfl, a, _, _, _, rfl, rfl, SqL.of hO, at_any hi, ?_⟩
    refine ⟨_, d0, rfl, .d1 (.dp (hd0 _)), ok0.sh, Nat.le_trans ok0.ln (by decide), Nat.le_trans ok0.dp (by decide), rfl, _, rfl, ifSame ?_⟩
    refine ⟨_, rfl, t, dx, fs, rfl, e1, nl _ (by decide), _, rfl, t, ow, depths ow, i, rfl, tr, hi, ?_⟩
    refine ⟨_, _, rfl, .d1 (.dp (.int _)), okd.sh, Nat.le_trans okd.ln (by decide), Nat.le_trans okd.dp (by decide), ?_⟩
    refine ⟨_, rfl, _, rfl, a, ow, i, rfl, hO, low, few, hi, fun p1 H1 n1 s1 h1 => ?_⟩
    have lpos : 0 < (line ow i).length := by
      obtain ⟨us, hu, _⟩ := line_last low i
      rw [hu, List.length_append]
      exact Nat.succ_pos _
    have el : ((((line ow i).map num).length : Nat) : Int) - 1 = (((line ow i).length - 1 : Nat) : Int) := by
      rw [List.length_map]
      omega
    refine ⟨.ref p1, _, rfl, .inl ⟨_, SqL.of h1, rfl⟩, _, _, rfl, rfl, ?_⟩
    refine ⟨_, .int (((line ow i).length - 1 : Nat) : Int), rfl, (by
      show D2 _ _ (V.int (((((line ow i).map num).length : Nat) : Int) - 1)) _
      rw [el]
      exact .d1 (.dp (.int _))), okd.sh, Nat.le_trans okd.ln (by decide), Nat.le_trans okd.dp (by decide), rfl, _, rfl, ifSame ?_⟩
    have hO1 := s1 _ _ hO
    refine ⟨_, rfl, .ref a, _, rfl, .inl ⟨_, SqL.of hO1, rfl⟩, _, rfl, by omega, (by rw [hlen]; omega), fun D hD => ?_⟩
    refine lc_it walk_range (fun m H' => Same H1 H' ∧ H' D = some (.lst ((kidsTo ow i m).map num))) ⟨same_new hD, upd_same⟩ (fun _ _ _ _ => True.intro) (fun m x H2 H3 hm hP hY => ?_) (fun H2 hP => ?_)
    · obtain ⟨rfl, rfl⟩ := hY
      have hm2 : m ≤ ow.length := by
        rw [hlen] at hm
        omega
      refine ⟨rfl, ?_⟩
      have ex : (fun i : Nat => V.int (0 + ((i : Nat) : Int))) = num := by
        funext i
        show V.int _ = V.int _
        rw [Int.zero_add]
      rw [ex]
      refine ⟨_, rfl, _, rfl, a, _, _, _, rfl, rfl, SqL.of (hP.1 _ _ hO1), at_any hm2, ?_⟩
      refine ⟨_, rfl, (by unfold ownV; split <;> rfl), _, rfl, ?_⟩
      rw [own_test hm2]
      have hP2 := hP.2
      have hk := kidsTo_step ow i m
      by_cases e : 1 ≤ m ∧ ow[m - 1]? = some i
      · rw [if_pos e] at hk
        rw [decide_eq_true e]
        refine iteT ⟨_, rfl, _, hP2, ?_, ?_, ?_⟩
        · rw [List.length_map]
          exact small1000 (by have := kidsTo_len ow i m; omega)
        · intro c u z
          rw [upd_ne (ne_of_none z hD)]
          exact hP.1 c u z
        · rw [upd_same, hk, List.map_append]
          rfl
      · rw [if_neg e, List.append_nil] at hk
        rw [decide_eq_false e]
        refine iteF ⟨hP.1, ?_⟩
        rw [hk]
        exact hP2
    obtain ⟨sD, hDD⟩ := hP
    rw [hlen, show (((ow.length + 1 : Nat) : Int)).toNat = ow.length + 1 from by omega, kidsTo_all] at hDD
    have sD2 : Same H H2 := s1.trans sD
    refine ⟨2, rfl, by decide, by decide, ?_⟩
    refine for_range (lo := 0) (n := 2) (fun m σ H' => Same H H' ∧ H' D = some (.lst ((kids ow i).map num)) ∧ ∃ y4 y5 y6 : Option V, σ = [some (.ref t), some (.ref a), some (num i), some (.ref D), y4, y5, y6])
      ⟨sD2, hDD, _, _, _, rfl⟩ (fun m σ H3 hm hP => ?_) (fun σ H3 hP => ?_)
    · obtain ⟨s3, h3, y4, y5, y6, rfl⟩ := hP
      refine ⟨_, rfl, t, dx, fs, rfl, s3 _ _ e1, nl _ (by decide), _, rfl, t, ow, i, N1, rfl, tw.kp fun c u _ z => s3 c u z, hi, fun p8 H8 n8 s8 h8 => ?_⟩
      have h83 := s8 _ _ h3
      have p8D : D ≠ p8 := ne_of_none h3 n8
      refine ⟨_, rfl, _, _, rfl, .d1 (.dp (.lst (SqL.of h8) (numsD _))), okk.sh, Nat.le_trans okk.ln (by decide), Nat.le_trans okk.dp (by decide), ?_⟩
      refine ⟨_, rfl, _, _, rfl, .d1 (.dp (.lst (SqL.of h83) (numsD _))), okk.sh, Nat.le_trans okk.ln (by decide), Nat.le_trans okk.dp (by decide), rfl, _, rfl, ifSame ?_⟩
      refine ⟨_, rfl, .inl ⟨rfl, _, SqL.of h8⟩, p8, _, _, rfl, rfl, h8, small1000 (by rw [List.length_map]; omega), fun c u z => ?_, ?_, _, _, _, rfl⟩
      · rw [upd_ne (ne_of_none (s3 _ _ z) n8)]
        exact s8 _ _ (s3 _ _ z)
      · rw [upd_ne p8D]
        exact h83
    · obtain ⟨s3, h3, y4, y5, y6, rfl⟩ := hP
      exact q _ s3
end
end K6
set_option maxHeartbeats 1000000
namespace K6
open PySem PySem.Spec PyProof.Rows L2 Gd Gs Gx
open C8 (clsBody Met pe_mt pe_mt0)
section
variable {P : Program} {w : World} {K : PySem.W.Frag} {mg : Str → Option Value} {base : Heap} {CT fT CM CL : Addr}
/-- a tree and the law's list of it, M all that is theirs -/
structure Reg (CM CL : Addr) (kind : Int) (H : Hp) (t a : Addr) (ow : List Nat) (M : Addr → Prop) : Prop where
  rk : RK CM CL kind (fun c => M c ∧ c ≠ t ∧ c ≠ a) H t ow
  ol : OwL H a ow
  mt : M t
  ma : M a
  lv : ∀ c, M c → H c ≠ none
theorem RK.mono {kind : Int} {t : Addr} {N N' : Addr → Prop} {H : Hp} {ow : List Nat} (r : RK CM CL kind N H t ow) (k : ∀ c, N c → N' c) : RK CM CL kind N' H t ow := by
  rcases r with ⟨h, r⟩ | ⟨h, r⟩
  · obtain ⟨N1, N2, dx, q, fs, tw, e1, l1, lv, dis, i1, i2⟩ := r.ex
    exact .inl ⟨h, ⟨N1, N2, dx, q, fs, tw, e1, l1, lv, dis, fun c z => k c (i1 c z), fun c z => k c (i2 c z)⟩⟩
  · refine .inr ⟨h, ?_⟩
    obtain ⟨dx, o, d, n, fs, ns, e1, l1, l2, l3, nl, e2, e3, e4, lf, hns, od, on, dn, hin, hnd, No, Nd, Nn⟩ := r.ex
    refine ⟨⟨dx, o, d, n, fs, ns, e1, l1, l2, l3, nl, e2, e3, e4, lf, hns, od, on, dn, fun i a ha => ?_, hnd, k _ No, k _ Nd, k _ Nn⟩, r.low, r.few⟩
    obtain ⟨h1, a1, a2, a3, a4⟩ := hin i a ha
    exact ⟨h1, a1, a2, a3, k _ a4⟩
theorem RK.ins {kind : Int} {t : Addr} {N : Addr → Prop} {H : Hp} {ow : List Nat} (r : RK CM CL kind N H t ow) : ∃ C dx fs, (C = CM ∨ C = CL) ∧ H t = some (.ins C dx fs) ∧ (∀ m, m ∉ fields → fs.lookup m = none) ∧ Tr H t C ow (depths ow) := by
  obtain ⟨C, N1, hC, tw⟩ := r.tw
  have tr := tw.tr
  obtain ⟨dx, o, d, n, fs, e1, l1, l2, l3, nl, e2, e3, lf⟩ := tr.ex
  exact ⟨C, dx, fs, hC, e1, nl, tr⟩
theorem Reg.ne {kind : Int} {H : Hp} {t a : Addr} {ow : List Nat} {M : Addr → Prop} (r : Reg CM CL kind H t a ow M) : t ≠ a := fun e => by
  obtain ⟨C, dx, fs, _, e1, _⟩ := r.rk.ins
  have := r.ol
  unfold OwL at this
  rw [← e, e1] at this
  cases this
theorem Reg.kp {kind : Int} {H H' : Hp} {t a : Addr} {ow : List Nat} {M : Addr → Prop} (r : Reg CM CL kind H t a ow M) (k : ∀ c u, M c → H c = some u → H' c = some u) : Reg CM CL kind H' t a ow M := by
  refine ⟨r.rk.kp fun c u hc z => ?_, k _ _ r.ma r.ol, r.mt, r.ma, fun c hc => ?_⟩
  · rcases hc with hc | hc
    · exact k c u hc.1 z
    · exact k c u (hc ▸ r.mt) z
  · cases e : H c with
    | none => exact absurd e (r.lv c hc)
    | some u => rw [k c u hc e]; exact fun z => nomatch z
theorem box_some {H : Hp} {b : Addr} (h : BoxAt H b) : ∃ u, H b = some u := by
  obtain ⟨x, y, z, _, _, _, h4⟩ := h
  exact ⟨_, h4⟩
theorem box_kp {H H' : Hp} {b : Addr} (h : BoxAt H b) (k : ∀ u, H b = some u → H' b = some u) : BoxAt H' b := by
  obtain ⟨x, y, z, h1, h2, h3, h4⟩ := h
  exact ⟨x, y, z, h1, h2, h3, k _ h4⟩
def spGrown (CM CL : Addr) : Sp := fun vs H Q _ => ∃ (b t a : Addr) (kind : Int) (M : Addr → Prop) (ow : List Nat), vs = [.ref b, .ref t, .ref a] ∧ BoxAt H b ∧ Reg CM CL kind H t a ow M ∧ ¬ M b ∧
  ∀ (H' : Hp) (ow' : List Nat) (M' : Addr → Prop), Reg CM CL kind H' t a ow' M' → BoxAt H' b → (∀ c u, ¬ M c → c ≠ b → H c = some u → H' c = some u) → (∀ c, M' c → M c ∨ H c = none) → Q (.bl true) H'
theorem shown65 : (PyData.int 65).shown = Str.ofString "65" := by
  simp only [PyData.shown]
  decide +kernel
theorem ok_grown (T : Txt K mg) (R : ErrT P K mg CT fT) (k : Asks P w K mg base CM CL CT) (kk : Kinds P w K mg base CM CL) (c__law_pick : CalG P w K mg base 2 "_law_pick" spPick) (D : DefAt K mg "_law_grown" s__law_grown ["_law_box_here", "_law_tree_here", "_law_owners"]) :
    CalG P w K mg base 6 "_law_grown" (spGrown CM CL) := by
  refine D.cal sc__law_grown (fun vs H Q E h => ?_) (fun f cdv A outer s H vs Q E hG hr h => ?_)
  · obtain ⟨b, t, a, kind, M, ow, rfl, _⟩ := h
    rfl
  · obtain ⟨b, t, a, kind, M, ow, rfl, hB, reg, hb, q⟩ := h
    obtain ⟨Cg, hCg, m_grow, hR⟩ := kk.grow kind
    obtain ⟨C, dx0, fs0, hC, e10, nl0, tr0⟩ := reg.rk.ins
    have hCC : Cg = C := by
      have z := (hR _ _ _ _ reg.rk).ex
      obtain ⟨dx, o, d, n, fs, e1, _⟩ := z
      rw [e10] at e1
      injection e1 with z1
      injection z1 with z2
      exact z2.symm
    subst hCC
    obtain ⟨m_many, m_own, m_depth, m_on, x_grow⟩ := k.ask _ hC
    have few := tr0.few
    have hlen : (V.non :: ow.map num).length = ow.length + 1 := by rw [List.length_cons, List.length_map]
    have ab : a ≠ b := fun e => hb (e ▸ reg.ma)
    have tb : t ≠ b := fun e => hb (e ▸ reg.mt)
    have ta := reg.ne
    refine ⟨_, (pss_cons (ps_set (i := 3) sc__law_grown.nd rfl (Or.inl rfl) (pe_g c__law_pick hG (hr.mono (by decide)) (by rfl) (pa_cons (pv 0) (pa_cons (pe_callB call_len (by rfl) T.b_len boot_len_ (pa_cons (pv 2) pa_nil)) pa_nil))))
      (pss_cons (ps_if (pt_cmpR op_eq (pe_callB call_len (by rfl) T.b_len boot_len_ (pa_cons (pv 2) pa_nil)) pe_int (nomark _))
          (pss_cons (ps_set (i := 4) sc__law_grown.nd rfl (Or.inl rfl) pe_non)
          (pss_cons (ps_try_as (i := 5) (tb := fun W => tDrop (tMethX Cg "grow" (spFull CT Cg) (WE W) (tVar 1) (tCons (tVar 3) tNil))) (ts := fun a cls d => tAsg (Gc.tFound CT a cls d (tVar 5)) (gName 4)) (Wout := fun _ _ _ _ => False) rfl rfl sc__law_grown.nd rfl rfl ⟨rfl, by decide, Or.inl R.g_TooMany⟩ takes0 (fun W pn xe tk _ => pss_one (ps_expr (by exact (pe_mtX x_grow hr (by decide) tk (pv 1) (by exact (pa_cons (pv 3) pa_nil)))))) (fun a oe cls d pn hz hf => pss_one (ps_set (i := 4) sc__law_grown.nd rfl (Or.inl rfl) (Gc.pe_found R.e_TooMany hz hf (pv 5)))))
          (pss_one (ps_ret (pe_and (pe_cmpR op_eq (pe_callB (call_repr hG (hu64 hr)) (by rfl) T.b_repr boot_repr_ (pa_cons (pv 4) pa_nil)) pe_str (nomark _)) (pe_one (pe_cmpR op_eq (pe_mt0 m_many hr (by decide) (pv 1)) pe_int (nomark _)))))))) pss_nil)
      (pss_cons (ps_expr (pe_bm PySem.F.plainAttrs_list PySem.F.slot_list_append PySem.F.type_list_append mt_append (pv 2) (pa_cons (pv 3) pa_nil)))
      (pss_one (ps_ret (pe_and (pe_cmpR op_eq (pe_callB (call_repr hG (hu64 hr)) (by rfl) T.b_repr boot_repr_ (pa_cons (pe_mt m_grow hr (by decide) (pv 1) (pa_cons (pv 3) pa_nil)) pa_nil)) (pe_callB (call_repr hG (hu64 hr)) (by rfl) T.b_repr boot_repr_ (pa_cons (pe_op op_sub (pe_callB call_len (by rfl) T.b_len boot_len_ (pa_cons (pv 2) pa_nil)) pe_int) pa_nil)) (nomark _)) (pe_one (pe_cmpR op_eq (pe_callB (call_repr hG (hu64 hr)) (by rfl) T.b_repr boot_repr_ (pa_cons (pe_mt0 m_many hr (by decide) (pv 1)) pa_nil)) (pe_callB (call_repr hG (hu64 hr)) (by rfl) T.b_repr boot_repr_ (pa_cons (pe_callB call_len (by rfl) T.b_len boot_len_ (pa_cons (pv 2) pa_nil)) pa_nil)) (nomark _))))))))), ?_⟩
    refine ⟨_, rfl, _, rfl, .ref a, _, rfl, .inl ⟨_, SqL.of reg.ol, rfl⟩, b, ow.length + 1, ?_, hB, by omega, by omega, fun d H1 hd hB1 k1 => ?_⟩
    · rw [hlen]
      rfl
    have reg1 : Reg CM CL kind H1 t a ow M := reg.kp fun c u hc z => k1 c u (fun e => hb (e ▸ hc)) z
    obtain ⟨C1, dx, fs, hC1, e1, nl, tr1⟩ := reg1.rk.ins
    have e11 := k1 _ _ tb e10
    rw [e1] at e11
    cases e11
    refine ⟨_, rfl, .ref a, _, rfl, .inl ⟨_, SqL.of reg1.ol, rfl⟩, rfl, _, rfl, ite2 (fun e => ?_) (fun e => ?_)⟩
    · have hfull : ow.length = 63 := by
        have := V.int.inj (of_decide_eq_true e)
        rw [hlen] at this
        omega
      refine ⟨_, rfl, t, dx0, fs0, rfl, e1, nl0 _ (by decide), _, rfl, t, ow, _, d, rfl, tr1, by omega, hfull, fun x hx => ?_⟩
      refine ⟨true, R.m_TooMany, fun _ a' ha' => ?_, fun z => nomatch z⟩
      have s2 : Same H1 (upd H1 x (.xd [("count", .int 65)])) := same_new hx
      have hx2 : (upd H1 x (.xd [("count", .int 65)])) x = some (.xd [("count", .int 65)]) := upd_same
      generalize upd H1 x (.xd [("count", .int 65)]) = H2 at *
      have ok65 : Okd (.int 65) 50 0 := okInt ⟨by decide, by decide⟩
      refine ⟨_, rfl, rfl, rfl, x, _, rfl, hx2, ?_⟩
      refine ⟨_, rfl, _, .int 65, rfl, .d1 (.dp (.int _)), ok65.sh, Nat.le_trans ok65.ln (by decide), Nat.le_trans ok65.dp (by decide), rfl, ?_⟩
      rw [shown65, decide_eq_true rfl]
      refine ⟨_, rfl, iteT ?_⟩
      refine ⟨_, rfl, t, dx0, fs0, rfl, s2 _ _ e1, nl0 _ (by decide), t, ow, _, rfl, tr1.same s2, rfl, ?_⟩
      rw [hfull, show decide (V.int ((63 + 1 : Nat) : Int) = V.int 64) = true from by decide]
      exact q H2 ow M (reg1.kp fun c u _ z => s2 c u z) (boxSame hB1 s2) (fun c u _ hc z => s2 _ _ (k1 c u hc z)) fun c hc => .inl hc
    · have hlt : ow.length < 63 := by
        by_cases z : ow.length = 63
        · refine absurd ?_ e
          rw [hlen, z]
          decide
        · omega
      refine ⟨_, rfl, .inl ⟨rfl, _, SqL.of reg1.ol⟩, _, rfl, a, _, _, rfl, rfl, reg1.ol, small1000 (by rw [hlen]; omega), ?_⟩
      have rk2 : RK CM CL kind (fun c => M c ∧ c ≠ t ∧ c ≠ a) (upd H1 a (.lst ((V.non :: ow.map num) ++ [num d]))) t ow := reg1.rk.kp fun c u hc z => by
        rw [upd_ne]
        · exact z
        · rcases hc with hc | hc
          · exact hc.2.2
          · rw [hc]
            exact ta
      have o2 : OwL (upd H1 a (.lst ((V.non :: ow.map num) ++ [num d]))) a (ow ++ [d]) := by
        show upd _ _ _ _ = _
        rw [upd_same, List.map_append]
        rfl
      have k2 : ∀ c u, c ≠ a → H1 c = some u → (upd H1 a (.lst ((V.non :: ow.map num) ++ [num d]))) c = some u := fun c u hc z => by
        rw [upd_ne hc]
        exact z
      have n2 : ∀ c, (upd H1 a (.lst ((V.non :: ow.map num) ++ [num d]))) c = none → H1 c = none := fun c z => upd_none z
      generalize upd H1 a (.lst ((V.non :: ow.map num) ++ [num d])) = H2 at *
      have t2 := k2 _ _ ta e1
      refine ⟨_, rfl, t, dx0, fs0, rfl, t2, nl0 _ (by decide), _, rfl, t, ow, d, _, rfl, rk2, by omega, hlt, fun H3 N3 rk3 k3 n3 => ?_⟩
      have nt3 : ∀ c, N3 c → c ≠ t ∧ c ≠ a := fun c hc => by
        rcases n3 c hc with h | h
        · exact h.2
        · exact ⟨fun e => (by rw [e, t2] at h; cases h), fun e => (by rw [e, show H2 a = _ from o2] at h; cases h)⟩
      have o3 : OwL H3 a (ow ++ [d]) := k3 _ _ (fun z => z.2.2 rfl) o2
      obtain ⟨C3, dx3, fs3, hC3, e3, nl3, tr3⟩ := rk3.ins
      have t3 := k3 _ _ (fun z => z.2.1 rfl) t2
      rw [t3] at e3
      cases e3
      have okn : Okd (.int (ow.length + 1 : Nat)) 50 0 := numOk (by omega)
      have okm : Okd (.int (((ow ++ [d]).length + 1 : Nat))) 50 0 := numOk (by rw [List.length_append]; show ow.length + 1 + 1 ≤ 1000; omega)
      have hl2 : (V.non :: (ow ++ [d]).map num).length = (ow ++ [d]).length + 1 := by rw [List.length_cons, List.length_map]
      have el : ((((V.non :: (ow ++ [d]).map num).length : Nat) : Int) - 1) = ((ow.length + 1 : Nat) : Int) := by
        rw [hl2, List.length_append]
        show ((ow.length + 1 + 1 : Nat) : Int) - 1 = _
        omega
      refine ⟨_, _, rfl, .d1 (.dp (.int _)), okn.sh, Nat.le_trans okn.ln (by decide), Nat.le_trans okn.dp (by decide), ?_⟩
      refine ⟨_, rfl, .ref a, _, rfl, .inl ⟨_, SqL.of o3, rfl⟩, _, _, rfl, rfl, ?_⟩
      refine ⟨_, .int ((ow.length + 1 : Nat) : Int), rfl, (by
        show D2 _ _ (V.int ((((V.non :: (ow ++ [d]).map num).length : Nat) : Int) - 1)) _
        rw [el]
        exact .d1 (.dp (.int _))), okn.sh, Nat.le_trans okn.ln (by decide), Nat.le_trans okn.dp (by decide), rfl, ?_⟩
      rw [decide_eq_true rfl]
      refine ⟨_, rfl, iteT ?_⟩
      refine ⟨_, rfl, t, dx0, fs0, rfl, t3, nl0 _ (by decide), t, _, _, rfl, tr3, ?_⟩
      refine ⟨_, _, rfl, .d1 (.dp (.int _)), okm.sh, Nat.le_trans okm.ln (by decide), Nat.le_trans okm.dp (by decide), ?_⟩
      refine ⟨_, rfl, .ref a, _, rfl, .inl ⟨_, SqL.of o3, rfl⟩, ?_⟩
      refine ⟨_, .int (((ow ++ [d]).length + 1 : Nat) : Int), rfl, (by rw [hl2]; exact .d1 (.dp (.int _))), okm.sh, Nat.le_trans okm.ln (by decide), Nat.le_trans okm.dp (by decide), rfl, ?_⟩
      rw [decide_eq_true rfl]
      have liveN : ∀ c u, ¬ M c → c ≠ b → H c = some u → H3 c = some u := fun c u hc hcb z => k3 _ _ (fun y => hc y.1) (k2 _ _ (fun e => hc (e ▸ reg.ma)) (k1 c u hcb z))
      refine q H3 (ow ++ [d]) (fun c => (N3 c ∧ H3 c ≠ none) ∨ c = t ∨ c = a) ⟨rk3.cut.mono fun c hc => ⟨.inl hc, nt3 c hc.1⟩, o3, .inr (.inl rfl), .inr (.inr rfl), fun c hc => ?_⟩ ?_ liveN fun c hc => ?_
      · rcases hc with hc | rfl | rfl
        · exact hc.2
        · rw [t3]
          exact fun z => nomatch z
        · rw [show H3 c = _ from o3]
          exact fun z => nomatch z
      · exact box_kp hB1 fun u z => k3 _ _ (fun y => hb y.1) (k2 _ _ ab.symm z)
      · rcases hc with hc | rfl | rfl
        · rcases n3 c hc.1 with h | h
          · exact .inl h.1
          · refine .inr ?_
            cases e : H c with
            | none => rfl
            | some u =>
              by_cases y : M c
              · exact absurd (n2 _ h) (reg1.lv c y)
              · by_cases y2 : c = b
                · obtain ⟨u2, hu2⟩ := box_some hB1
                  have := n2 _ h
                  rw [y2, hu2] at this
                  cases this
                · have := k1 c u y2 e
                  rw [n2 _ h] at this
                  cases this
        · exact .inl reg.mt
        · exact .inl reg.ma
def spAll (CM CL : Addr) : Sp := fun vs H Q _ => ∃ (t a : Addr) (kind : Int) (N : Addr → Prop) (ow : List Nat), vs = [.ref t, .ref a] ∧ RK CM CL kind N H t ow ∧ OwL H a ow ∧ ∀ H', Same H H' → Q (.bl true) H'
theorem ok_all (T : Txt K mg) (k : Asks P w K mg base CM CL CT) (c__law_make_right : CalG P w K mg base 4 "_law_make_right" (spMR CM CL)) (D : DefAt K mg "_law_all_right" s__law_all_right ["_law_tree_here", "_law_owners"]) : CalG P w K mg base 5 "_law_all_right" (spAll CM CL) := by
  refine D.cal sc__law_all_right (fun vs H Q E h => ?_) (fun f cdv A outer s H vs Q E hG hr h => ?_)
  · obtain ⟨t, a, kind, N, ow, rfl, _⟩ := h
    rfl
  · obtain ⟨t, a, kind, N, ow, rfl, rk, hO, q⟩ := h
    obtain ⟨C, dx, fs, hC, e1, nl, tr⟩ := rk.ins
    obtain ⟨m_many, m_own, m_depth, m_on, _⟩ := k.ask C hC
    have few := tr.few
    have hlen : (V.non :: ow.map num).length = ow.length + 1 := by rw [List.length_cons, List.length_map]
    refine ⟨_, (pss_cons (ps_for PassesOwn.never rfl (pi_range1 rfl T.b_range (pa_cons (pe_callB call_len (by rfl) T.b_len boot_len_ (pa_cons (pv 1) pa_nil)) pa_nil)) (pg_name (i := 2) sc__law_all_right.nd rfl (Or.inl rfl))
          (pss_one (ps_if (pt_not (pt_val (pe_g c__law_make_right hG (hr.mono (by decide)) (by rfl) (pa_cons (pv 0) (pa_cons (pv 1) (pa_cons (pv 2) pa_nil))))))
              (pss_one (ps_ret pe_bl)) pss_nil)))
      (pss_one (ps_ret (pe_cmpR op_eq (pe_mt0 m_many hr (by decide) (pv 0)) (pe_callB call_len (by rfl) T.b_len boot_len_ (pa_cons (pv 1) pa_nil)) (nomark _))))), ?_⟩
    refine ⟨_, rfl, .ref a, _, rfl, .inl ⟨_, SqL.of hO, rfl⟩, _, rfl, by omega, (by rw [hlen]; omega), ?_⟩
    refine for_range (lo := 0) (fun m σ H' => Same H H' ∧ ∃ y2 : Option V, σ = [some (.ref t), some (.ref a), y2])
      ⟨Same.refl _, none, rfl⟩ (fun m σ H1 hm hP => ?_) (fun σ H1 hP => ?_)
    · obtain ⟨s1, y2, rfl⟩ := hP
      have hm2 : m ≤ ow.length := by
        rw [hlen] at hm
        omega
      refine ⟨_, rfl, _, rfl, _, rfl, t, a, kind, N, ow, m, ?_, rk.kp fun c u _ z => s1 c u z, s1 _ _ hO, hm2, fun H2 s2 => ⟨_, rfl, iteF ⟨s1.trans s2, _, rfl⟩⟩⟩
      show [V.ref t, V.ref a, V.int (0 + (m : Nat))] = [V.ref t, V.ref a, V.int (m : Nat)]
      rw [Int.zero_add]
    · obtain ⟨s1, y2, rfl⟩ := hP
      refine ⟨_, rfl, t, dx, fs, rfl, s1 _ _ e1, nl _ (by decide), t, ow, _, rfl, tr.same s1, ?_⟩
      refine ⟨_, rfl, .ref a, _, rfl, .inl ⟨_, SqL.of (s1 _ _ hO), rfl⟩, rfl, ?_⟩
      rw [hlen, decide_eq_true rfl]
      exact q _ s1
end
end K6
namespace K6
open PySem PySem.Spec PyProof.Rows L2 Gd Gs Gx
open C8 (clsBody Met pe_mt pe_mt0)
section
variable {P : Program} {w : World} {K : PySem.W.Frag} {mg : Str → Option Value} {base : Heap} {CT fT CM CL : Addr}
/-- one pair of the law: its list at q -/
structure Ent (CM CL : Addr) (kind : Int) (H0 H : Hp) (L b q t a : Addr) (ow : List Nat) (M : Addr → Prop) : Prop where
  pr : H q = some (.lst [.ref t, .ref a])
  reg : Reg CM CL kind H t a ow M
  nq : ¬ M q
  nL : ¬ M L
  nb : ¬ M b
  qb : q ≠ b
  qL : q ≠ L
  fr : ∀ c, M c → H0 c = none
def St1 (CM CL : Addr) (kind : Int) (H0 : Hp) (L b : Addr) (H : Hp) : Prop := ∃ (q t a : Addr) (ow : List Nat) (M : Addr → Prop), H L = some (.lst [.ref q]) ∧ L ≠ b ∧ Ent CM CL kind H0 H L b q t a ow M
def St2 (CM CL : Addr) (kind : Int) (H0 : Hp) (L b : Addr) (H : Hp) : Prop := ∃ (q t a : Addr) (ow : List Nat) (M : Addr → Prop) (q2 t2 a2 : Addr) (ow2 : List Nat) (M2 : Addr → Prop), H L = some (.lst [.ref q, .ref q2]) ∧ L ≠ b ∧
  Ent CM CL kind H0 H L b q t a ow M ∧ Ent CM CL kind H0 H L b q2 t2 a2 ow2 M2 ∧ ¬ M q2 ∧ ¬ M2 q ∧ (∀ c, M c → M2 c → False)
theorem Ent.new {kind : Int} {H0 H H2 : Hp} {L b b2 q t a : Addr} {ow : List Nat} {M : Addr → Prop} (e : Ent CM CL kind H0 H L b q t a ow M) (hb : H b2 = none) (s : Same H H2) : Ent CM CL kind H0 H2 L b2 q t a ow M :=
  ⟨s _ _ e.pr, e.reg.kp fun c u _ z => s c u z, e.nq, e.nL, fun z => e.reg.lv _ z hb, ne_of_none e.pr hb, e.qL, e.fr⟩
theorem St1.new {kind : Int} {H0 H H2 : Hp} {L b b2 : Addr} (h : St1 CM CL kind H0 L b H) (hb : H b2 = none) (s : Same H H2) : St1 CM CL kind H0 L b2 H2 := by
  obtain ⟨q, t, a, ow, M, hL, _, e⟩ := h
  exact ⟨q, t, a, ow, M, s _ _ hL, ne_of_none hL hb, e.new hb s⟩
theorem St2.new {kind : Int} {H0 H H2 : Hp} {L b b2 : Addr} (h : St2 CM CL kind H0 L b H) (hb : H b2 = none) (s : Same H H2) : St2 CM CL kind H0 L b2 H2 := by
  obtain ⟨q, t, a, ow, M, q2, t2, a2, ow2, M2, hL, _, e, e2, n1, n2, dis⟩ := h
  exact ⟨q, t, a, ow, M, q2, t2, a2, ow2, M2, s _ _ hL, ne_of_none hL hb, e.new hb s, e2.new hb s, n1, n2, dis⟩
/-- behind what was done to one pair -/
theorem Ent.mine {kind : Int} {H0 H H' : Hp} {L b q t a : Addr} {ow ow' : List Nat} {M M' : Addr → Prop} (s0 : Same H0 H) (hB : ∃ u, H b = some u) (hL : ∃ u, H L = some u) (e : Ent CM CL kind H0 H L b q t a ow M) (r : Reg CM CL kind H' t a ow' M')
    (f : ∀ c u, ¬ M c → c ≠ b → H c = some u → H' c = some u) (n : ∀ c, M' c → M c ∨ H c = none) : Ent CM CL kind H0 H' L b q t a ow' M' := by
  refine ⟨f _ _ e.nq e.qb e.pr, r, fun z => ?_, fun z => ?_, fun z => ?_, e.qb, e.qL, fun c z => ?_⟩
  · rcases n _ z with h | h
    · exact e.nq h
    · rw [e.pr] at h
      cases h
  · rcases n _ z with h | h
    · exact e.nL h
    · obtain ⟨u, hu⟩ := hL
      rw [hu] at h
      cases h
  · rcases n _ z with h | h
    · exact e.nb h
    · obtain ⟨u, hu⟩ := hB
      rw [hu] at h
      cases h
  · rcases n _ z with h | h
    · exact e.fr _ h
    · exact none_of s0 h
theorem Ent.other {kind : Int} {H0 H H' : Hp} {L b q t a : Addr} {ow : List Nat} {M M2 : Addr → Prop} (e : Ent CM CL kind H0 H L b q t a ow M2) (nq : ¬ M q) (dis : ∀ c, M c → M2 c → False) (f : ∀ c u, ¬ M c → c ≠ b → H c = some u → H' c = some u) : Ent CM CL kind H0 H' L b q t a ow M2 :=
  ⟨f _ _ nq e.qb e.pr, e.reg.kp fun c u hc z => f c u (fun y => dis c y hc) (fun y => e.nb (y ▸ hc)) z, e.nq, e.nL, e.nb, e.qb, e.qL, e.fr⟩
theorem pick {kind : Int} {H0 H : Hp} {L b : Addr} (s0 : Same H0 H) (hB : ∃ u, H b = some u) (h : St1 CM CL kind H0 L b H ∨ St2 CM CL kind H0 L b H) : ∃ es : List Addr, H L = some (.lst (es.map V.ref)) ∧ 0 < es.length ∧ es.length ≤ 2 ∧ L ≠ b ∧
    ∀ (j : Nat) (q : Addr), es[j]? = some q → ∃ (t a : Addr) (ow : List Nat) (M : Addr → Prop), Ent CM CL kind H0 H L b q t a ow M ∧
      ∀ (H' : Hp) (ow' : List Nat) (M' : Addr → Prop), Reg CM CL kind H' t a ow' M' → (∀ c u, ¬ M c → c ≠ b → H c = some u → H' c = some u) → (∀ c, M' c → M c ∨ H c = none) →
        (St1 CM CL kind H0 L b H → St1 CM CL kind H0 L b H') ∧ (St1 CM CL kind H0 L b H' ∨ St2 CM CL kind H0 L b H') := by
  rcases h with h | h
  · obtain ⟨q, t, a, ow, M, hL, hLb, e⟩ := h
    refine ⟨[q], hL, Nat.succ_pos _, Nat.le_succ _, hLb, fun j q' hj => ?_⟩
    have eq : q = q' := by
      cases j with
      | zero => exact Option.some.inj hj
      | succ j => cases hj
    subst eq
    refine ⟨t, a, ow, M, e, fun H' ow' M' r f n => ?_⟩
    have z : St1 CM CL kind H0 L b H' := ⟨q, t, a, ow', M', f _ _ e.nL hLb hL, hLb, e.mine s0 hB ⟨_, hL⟩ r f n⟩
    exact ⟨fun _ => z, .inl z⟩
  · obtain ⟨q, t, a, ow, M, q2, t2, a2, ow2, M2, hL, hLb, e, e2, n1, n2, dis⟩ := h
    have no : St1 CM CL kind H0 L b H → False := fun ⟨_, _, _, _, _, hL2, _⟩ => by
      rw [hL] at hL2
      cases hL2
    refine ⟨[q, q2], hL, Nat.succ_pos _, Nat.le_refl _, hLb, fun j q' hj => ?_⟩
    cases j with
    | zero =>
      cases (show some q = some q' from hj)
      refine ⟨t, a, ow, M, e, fun H' ow' M' r f n => ⟨fun z => (no z).elim, .inr ?_⟩⟩
      refine ⟨q, t, a, ow', M', q2, t2, a2, ow2, M2, f _ _ e.nL hLb hL, hLb, e.mine s0 hB ⟨_, hL⟩ r f n, e2.other n1 dis f, fun z => ?_, n2, fun c h1 h2 => ?_⟩
      · rcases n _ z with h | h
        · exact n1 h
        · rw [e2.pr] at h
          cases h
      · rcases n _ h1 with h | h
        · exact dis _ h h2
        · exact e2.reg.lv _ h2 h
    | succ j =>
      cases j with
      | zero =>
        cases (show some q2 = some q' from hj)
        refine ⟨t2, a2, ow2, M2, e2, fun H' ow' M' r f n => ⟨fun z => (no z).elim, .inr ?_⟩⟩
        refine ⟨q, t, a, ow, M, q2, t2, a2, ow', M', f _ _ e2.nL hLb hL, hLb, e.other n2 (fun c h1 h2 => dis c h2 h1) f, e2.mine s0 hB ⟨_, hL⟩ r f n, n1, fun z => ?_, fun c h1 h2 => ?_⟩
        · rcases n _ z with h | h
          · exact n2 h
          · rw [e.pr] at h
            cases h
        · rcases n _ h2 with h | h
          · exact dis _ h1 h
          · exact e.reg.lv _ h1 h
      | succ j => cases hj
/-- what isinstance asks -/
def IsI (K : PySem.W.Frag) (CM CL : Addr) : Prop := ∀ C, C = CM ∨ C = CL → (∀ (H : Hp) (a dx : Addr) (fs : List (Str × V)), H a = some (.ins C dx fs) → TyX K H (.ref a) (.ref C)) ∧ ∃ b, PySem.W.kitOne K (.ref C) (.ref CL) = some b
theorem RK.inj {kind : Int} {t t2 C C2 dx dx2 : Addr} {fs fs2 : List (Str × V)} {N N2 : Addr → Prop} {H H2 : Hp} {ow ow2 : List Nat} (ne : CM ≠ CL) (r : RK CM CL kind N H t ow) (r2 : RK CM CL kind N2 H2 t2 ow2) (e : H t = some (.ins C dx fs)) (e2 : H2 t2 = some (.ins C2 dx2 fs2)) : C = C2 := by
  rcases r with ⟨h, r⟩ | ⟨h, r⟩
  · rcases r2 with ⟨h2, r2⟩ | ⟨h2, r2⟩
    · obtain ⟨_, _, _, _, _, tw, _⟩ := r.ex
      obtain ⟨_, _, _, _, _, tw2, _⟩ := r2.ex
      obtain ⟨_, _, _, _, _, _, z, _⟩ := tw.ex
      obtain ⟨_, _, _, _, _, _, z2, _⟩ := tw2.ex
      rw [e] at z
      rw [e2] at z2
      cases z
      cases z2
      rfl
    · exact absurd h h2
  · rcases r2 with ⟨h2, r2⟩ | ⟨h2, r2⟩
    · exact absurd h2 h
    · obtain ⟨_, _, _, _, _, _, z, _⟩ := r.ex
      obtain ⟨_, _, _, _, _, _, z2, _⟩ := r2.ex
      rw [e] at z
      rw [e2] at z2
      cases z
      cases z2
      rfl
end
end K6
namespace K6
open PySem PySem.Spec PyProof.Rows L2 Gd Gs Gx
open C8 (clsBody Met pe_mt pe_mt0)
section
variable {P : Program} {w : World} {K : PySem.W.Frag} {mg : Str → Option Value} {base : Heap} {CT fT CM CL : Addr}
theorem RK.cut2 {kind : Int} {t : Addr} {N : Addr → Prop} {H : Hp} {ow : List Nat} (r : RK CM CL kind N H t ow) : RK CM CL kind (fun c => N c ∧ c ≠ t ∧ H c ≠ none) H t ow := by
  rcases r with ⟨h, l⟩ | ⟨h, r⟩
  · obtain ⟨N1, N2, dx, q, fs, tw, e1, l1, lv, dis, i1, i2⟩ := l.ex
    obtain ⟨ls, h1, h2, h3, h4⟩ := lv.ex
    refine .inl ⟨h, ⟨_, (fun c => N2 c ∧ c ≠ t ∧ H c ≠ none), dx, q, fs, tw.cut, e1, l1, ⟨ls, h1, h2, ⟨h3, fun e => (by rw [e, e1] at h1; cases h1), fun z => (by rw [h1] at z; cases z)⟩, fun i a ha => ?_⟩, fun c h1 h2 => dis c h1.1 h2.1, fun c h => ⟨i1 _ h.1, h.2⟩, fun c h => ⟨i2 _ h.1, h.2⟩⟩⟩
    obtain ⟨a1, a2, ks, a3, a4⟩ := h4 i a ha
    exact ⟨⟨a1, fun e => (by rw [e, e1] at a3; cases a3), fun z => (by rw [a3] at z; cases z)⟩, a2, ks, a3, a4⟩
  · exact .inr ⟨h, r.cut⟩
theorem cp_or {ta : TE} {σ : L2.St} {H : Hp} {Q : VK} {kind : Int} {t : Addr} {N : Addr → Prop} {ow : List Nat} (r : RK CM CL kind N H t ow) (mono : ∀ R : V → Hp → Prop, R (.ref t) H → ta σ H R)
    (cont : ∀ (u : Addr) (H' : Hp) (N' : Addr → Prop), H u = none → RK CM CL kind N' H' u ow → (∀ c, N' c → H c = none) → Same H H' → Q (.ref u) H') :
    tMeth CM "copied" (spCopied CM fun N H t ow => Tw N H t CM ow) [] C8.E0 ta tNil σ H Q ∨ tMeth CL "copied" (spCopied CL (Lw CL)) [] C8.E0 ta tNil σ H Q := by
  rcases r with ⟨hk, r⟩ | ⟨hk, r⟩
  · obtain ⟨dx, o, d, n, fs, e1, l1, l2, l3, nl, e2, e3, lf⟩ := r.tr.ex
    exact .inr (mono _ ⟨t, dx, fs, rfl, e1, nl _ (by decide), t, ow, rfl, r.tr, fun u H' N' n r f s => cont u H' N' n (.inl ⟨hk, r⟩) f s⟩)
  · obtain ⟨dx, o, d, n, fs, e1, l1, l2, l3, nl, e2, e3, lf⟩ := r.tr.ex
    exact .inl (mono _ ⟨t, dx, fs, rfl, e1, nl _ (by decide), t, ow, rfl, r.tr, fun u H' N' n r f s => cont u H' N' n (.inr ⟨hk, r⟩) f s⟩)
theorem St.keep {kind : Int} {H0 H H' : Hp} {L b : Addr} (s0 : Same H0 H) (hB : ∃ u, H b = some u) (h : St1 CM CL kind H0 L b H ∨ St2 CM CL kind H0 L b H) (kp : ∀ c u, c ≠ b → H c = some u → H' c = some u) :
    (St1 CM CL kind H0 L b H → St1 CM CL kind H0 L b H') ∧ (St1 CM CL kind H0 L b H' ∨ St2 CM CL kind H0 L b H') := by
  obtain ⟨es, hL, h0, _, _, pk⟩ := pick s0 hB h
  obtain ⟨q, hq⟩ : ∃ q, es[0]? = some q := ⟨_, List.getElem?_eq_getElem h0⟩
  obtain ⟨t, a, ow, M, ent, back⟩ := pk 0 q hq
  exact back H' ow M (ent.reg.kp fun c u hc z => kp c u (fun e => ent.nb (e ▸ hc)) z) (fun c u _ hc z => kp c u hc z) fun c hc => .inl hc
def spLaw (K : PySem.W.Frag) : Sp := fun vs H Q _ => ∃ (a : Addr) (ns : List Int), vs = [.ref a] ∧ SqL K H a (ns.map V.int) ∧ ns.length ≤ 63 ∧ ∀ H', Q (.bl true) H'
theorem ok_law (T : Txt K mg) (k : Asks P w K mg base CM CL CT) (kk : Kinds P w K mg base CM CL) (I : IsI K CM CL) (ne : CM ≠ CL) {f : Addr} {fd : FuncData} (F : Fun K "law" "law" s_law f fd) (c__law_cell : CalG P w K mg base 1 "_law_cell" (spCell K)) (c__law_box : CalG P w K mg base 1 "_law_box" spBox)
    (c__law_take : CalG P w K mg base 1 "_law_take" spTake) (c__law_tree : CalG P w K mg base 4 "_law_tree" (spTree CM CL)) (c__law_grown : CalG P w K mg base 6 "_law_grown" (spGrown CM CL))
    (c__law_make_right : CalG P w K mg base 4 "_law_make_right" (spMR CM CL)) (c__law_all_right : CalG P w K mg base 5 "_law_all_right" (spAll CM CL)) : FnG P w K mg base CX0 7 f fd ["_law_script"] (spLaw K) := by
  have m_cpM := k.cpM
  have m_cpL := k.cpL
  refine okG F sc_law (fun vs H Q E h => ?_) (fun cdv A outer s H vs Q E hG hr h => ?_)
  · obtain ⟨a, ns, rfl, _⟩ := h
    rfl
  · obtain ⟨sa, ns, rfl, hS, hl, q⟩ := h
    refine ⟨_, (pss_cons (ps_set (i := 1) sc_law.nd rfl (Or.inl rfl) (pe_g c__law_box hG (hr.mono (by decide)) (by rfl) (pa_cons (pe_g c__law_cell hG (hr.mono (by decide)) (by rfl) (pa_cons (pv 0) (pa_cons pe_int pa_nil))) pa_nil)))
      (pss_cons (ps_set (i := 2) sc_law.nd rfl (Or.inl rfl) (pe_lst (pa_cons (pe_lst (pa_cons (pe_g c__law_tree hG (hr.mono (by decide)) (by rfl) (pa_cons (pe_g c__law_take hG (hr.mono (by decide)) (by rfl) (pa_cons (pv 1) (pa_cons pe_int pa_nil))) pa_nil)) (pa_cons (pe_lst (pa_cons pe_non pa_nil)) pa_nil))) pa_nil)))
      (pss_cons (ps_set (i := 3) sc_law.nd rfl (Or.inl rfl) (pe_op op_add pe_int (pe_g c__law_take hG (hr.mono (by decide)) (by rfl) (pa_cons (pv 1) (pa_cons pe_int pa_nil)))))
      (pss_cons (ps_for PassesOwn.never rfl (pi_range2 rfl T.b_range (pa_cons pe_int (pa_cons (pe_callB (call_max2 rfl) (by rfl) T.b_max boot_max_ (pa_cons pe_int (pa_cons (pe_callB (call_min2 rfl) (by rfl) T.b_min boot_min_ (pa_cons (pe_callB call_len (by rfl) T.b_len boot_len_ (pa_cons (pv 0) pa_nil)) (pa_cons pe_int pa_nil))) pa_nil))) pa_nil))) (pg_name (i := 4) sc_law.nd rfl (Or.inl rfl))
          (pss_cons (ps_set (i := 1) sc_law.nd rfl (Or.inl rfl) (pe_g c__law_box hG (hr.mono (by decide)) (by rfl) (pa_cons (pe_g c__law_cell hG (hr.mono (by decide)) (by rfl) (pa_cons (pv 0) (pa_cons (pv 4) pa_nil))) pa_nil)))
          (pss_cons (ps_if (pt_cmpR op_eq (pv 4) (pv 3) (nomark _))
              (pss_cons (ps_expr (pe_bm PySem.F.plainAttrs_list PySem.F.slot_list_append PySem.F.type_list_append mt_append (pv 2) (pa_cons (pe_lst (pa_cons (pe_or (pe_mt0 m_cpM hr (by decide) (pe_ix ix_list (pe_ix ix_list (pv 2) pe_int (fun _ _ => rfl)) pe_int (fun _ _ => rfl))) (pe_mt0 m_cpL hr (by decide) (pe_ix ix_list (pe_ix ix_list (pv 2) pe_int (fun _ _ => rfl)) pe_int (fun _ _ => rfl)))) (pa_cons (pe_callTy call_list_of (by rfl) T.t_list boot_list_ (pa_cons (pe_ix ix_list (pe_ix ix_list (pv 2) pe_int (fun _ _ => rfl)) pe_int (fun _ _ => rfl)) pa_nil)) pa_nil))) pa_nil)))
              (pss_one (ps_if (pt_cmpR op_ne (pe_callB call_isi (by rfl) T.b_isinstance boot_isinstance_ (pa_cons (pe_ix ix_list (pe_ix ix_list (pv 2) pe_int (fun _ _ => rfl)) pe_int (fun _ _ => rfl)) (pa_cons (pe_glob (v := .ref CL) (by rfl) kk.cL rfl) pa_nil))) (pe_callB call_isi (by rfl) T.b_isinstance boot_isinstance_ (pa_cons (pe_ix ix_list (pe_ix ix_list (pv 2) pe_int (fun _ _ => rfl)) pe_int (fun _ _ => rfl)) (pa_cons (pe_glob (v := .ref CL) (by rfl) kk.cL rfl) pa_nil))) (nomark _))
                  (pss_one (ps_ret pe_bl)) pss_nil))) pss_nil)
          (pss_cons (ps_asg (pe_ix ix_list (pv 2) (pe_g c__law_take hG (hr.mono (by decide)) (by rfl) (pa_cons (pv 1) (pa_cons (pe_callB call_len (by rfl) T.b_len boot_len_ (pa_cons (pv 2) pa_nil)) pa_nil))) (fun _ _ => rfl)) (pg_lst (by rfl) (pgs_cons (pg_name (i := 5) sc_law.nd rfl (Or.inl rfl)) (pgs_cons (pg_name (i := 6) sc_law.nd rfl (Or.inl rfl)) pgs_nil))))
          (pss_cons (ps_for PassesOwn.never rfl (pi_range1 rfl T.b_range (pa_cons (pe_op op_add pe_int (pe_g c__law_take hG (hr.mono (by decide)) (by rfl) (pa_cons (pv 1) (pa_cons pe_int pa_nil)))) pa_nil)) (pg_name (i := 7) sc_law.nd rfl (Or.inl rfl))
              (pss_one (ps_if (pt_not (pt_val (pe_g c__law_grown hG (hr.mono (by decide)) (by rfl) (pa_cons (pv 1) (pa_cons (pv 5) (pa_cons (pv 6) pa_nil))))))
                  (pss_one (ps_ret pe_bl)) pss_nil)))
          (pss_one (ps_for PassesOwn.never rfl (pi_range1 rfl T.b_range (pa_cons pe_int pa_nil)) (pg_name (i := 7) sc_law.nd rfl (Or.inl rfl))
              (pss_one (ps_if (pt_not (pt_val (pe_g c__law_make_right hG (hr.mono (by decide)) (by rfl) (pa_cons (pv 5) (pa_cons (pv 6) (pa_cons (pe_g c__law_take hG (hr.mono (by decide)) (by rfl) (pa_cons (pv 1) (pa_cons (pe_callB call_len (by rfl) T.b_len boot_len_ (pa_cons (pv 6) pa_nil)) pa_nil))) pa_nil))))))
                  (pss_one (ps_ret pe_bl)) pss_nil)))))))))
      (pss_cons (ps_for PassesOwn.never rfl (pi_list (pv 2)) (pg_lst (by rfl) (pgs_cons (pg_name (i := 5) sc_law.nd rfl (Or.inl rfl)) (pgs_cons (pg_name (i := 6) sc_law.nd rfl (Or.inl rfl)) pgs_nil)))
          (pss_one (ps_if (pt_not (pt_val (pe_g c__law_all_right hG (hr.mono (by decide)) (by rfl) (pa_cons (pv 5) (pa_cons (pv 6) pa_nil)))))
              (pss_one (ps_ret pe_bl)) pss_nil)))
      (pss_one (ps_ret pe_bl))))))), ?_⟩
    refine ⟨_, rfl, sa, ns, 0, rfl, hS, hl, by decide, fun n => ⟨n, rfl, fun b0 H1 hb hB1 k1 => ?_⟩⟩
    have s1 : Same H H1 := fun c o z => (k1 c (ne_of_none z hb)).trans z
    refine ⟨_, rfl, b0, 2, rfl, hB1, by decide, by decide, fun kind H2 _ _ hB2 k2 => ?_⟩
    have s2 : Same H H2 := fun c o z => (k2 c (ne_of_none z hb)).trans (s1 _ _ z)
    refine ⟨kind, rfl, fun t H3 N3 rk3 s3 f3 nt => ?_⟩
    have s03 : Same H H3 := s2.trans s3
    have nbt : t ≠ b0 := fun e => by
      obtain ⟨u, hu⟩ := box_some hB2
      rw [← e, nt] at hu
      cases hu
    refine ⟨(by show 1 ≤ sizeLine; decide), fun a ha => ⟨(by show 2 ≤ sizeLine; decide), fun q0 hq0 => ⟨(by show 1 ≤ sizeLine; decide), fun L hL0 => ?_⟩⟩⟩
    have hB3 := boxSame hB2 s3
    have rk4 : RK CM CL kind (fun c => N3 c ∧ c ≠ t ∧ H3 c ≠ none) (upd (upd (upd H3 a (.lst [.non])) q0 (.lst [.ref t, .ref a])) L (.lst [.ref q0])) t [] := rk3.cut2.same ((same_new ha).trans ((same_new hq0).trans (same_new hL0)))
    have s34 : Same H3 (upd (upd (upd H3 a (.lst [.non])) q0 (.lst [.ref t, .ref a])) L (.lst [.ref q0])) := (same_new ha).trans ((same_new hq0).trans (same_new hL0))
    have na : H3 a = none := ha
    have nq0 : H3 q0 = none := upd_none hq0
    have nL0 : H3 L = none := upd_none (upd_none hL0)
    have ga : (upd (upd (upd H3 a (.lst [.non])) q0 (.lst [.ref t, .ref a])) L (.lst [.ref q0])) a = some (.lst [.non]) := kep (kep upd_same hq0) hL0
    have gq : (upd (upd (upd H3 a (.lst [.non])) q0 (.lst [.ref t, .ref a])) L (.lst [.ref q0])) q0 = some (.lst [.ref t, .ref a]) := kep upd_same hL0
    have gL : (upd (upd (upd H3 a (.lst [.non])) q0 (.lst [.ref t, .ref a])) L (.lst [.ref q0])) L = some (.lst [.ref q0]) := upd_same
    generalize upd (upd (upd H3 a (.lst [.non])) q0 (.lst [.ref t, .ref a])) L (.lst [.ref q0]) = H4 at *
    have tl3 : H3 t ≠ none := fun z => by
      obtain ⟨C, dx, fs, _, e1, _⟩ := rk3.ins
      rw [z] at e1
      cases e1
    have ab0 : a ≠ b0 := fun e => by
      obtain ⟨u, hu⟩ := box_some hB3
      rw [← e, na] at hu
      cases hu
    have Lb0 : L ≠ b0 := fun e => by
      obtain ⟨u, hu⟩ := box_some hB3
      rw [← e, nL0] at hu
      cases hu
    have qb0 : q0 ≠ b0 := fun e => by
      obtain ⟨u, hu⟩ := box_some hB3
      rw [← e, nq0] at hu
      cases hu
    have qa : q0 ≠ a := fun e => by rw [e, upd_same] at hq0; cases hq0
    have La : L ≠ a := fun e => by
      rw [e, kep upd_same hq0] at hL0
      cases hL0
    have Lq : q0 ≠ L := fun e => by
      rw [← e, upd_same] at hL0
      cases hL0
    have st : St1 CM CL kind H L b0 H4 := by
      refine ⟨q0, t, a, [], (fun c => (N3 c ∧ c ≠ t ∧ H3 c ≠ none) ∨ c = t ∨ c = a), gL, Lb0, gq, ⟨rk4.mono fun c hc => ⟨.inl hc, hc.2.1, fun e => hc.2.2 (e ▸ na)⟩, ga, .inr (.inl rfl), .inr (.inr rfl), fun c hc => ?_⟩, ?_, ?_, ?_, qb0, Lq, fun c hc => ?_⟩
      · rcases hc with hc | rfl | rfl
        · intro z
          exact hc.2.2 (none_of s34 z)
        · exact fun z => tl3 (none_of s34 z)
        · rw [ga]
          exact fun z => nomatch z
      · rintro (hc | rfl | rfl)
        · exact hc.2.2 nq0
        · exact tl3 nq0
        · exact qa rfl
      · rintro (hc | rfl | rfl)
        · exact hc.2.2 nL0
        · exact tl3 nL0
        · exact La rfl
      · rintro (hc | rfl | rfl)
        · obtain ⟨u, hu⟩ := box_some hB2
          rw [f3 _ hc.1] at hu
          cases hu
        · exact nbt rfl
        · exact ab0 rfl
      · rcases hc with hc | rfl | rfl
        · exact none_of s2 (f3 _ hc.1)
        · exact none_of s2 nt
        · exact none_of s03 na
    have hLH : H L = none := none_of s03 nL0
    have hB4 := boxSame hB3 s34
    have s04 : Same H H4 := s03.trans s34
    clear s1 hB1 k1 hB2 k2 s2 s3 f3 nt s03 nbt ha hq0 hL0 hB3 rk4 na nq0 nL0 ga gq gL tl3 ab0 Lb0 qb0 qa La Lq s34 rk3
    refine ⟨_, rfl, b0, 20, rfl, hB4, by decide, by decide, fun d2 H5 e20 e21 hB5 k5 => ⟨_, _, rfl, rfl, ?_⟩⟩
    have st5 := St.keep s04 (box_some hB4) (.inl st) (kp_of k5)
    have s05 : Same H H5 := fun c o z => (k5 c (ne_of_none z hb)).trans (s04 _ _ z)
    refine ⟨_, rfl, .ref sa, (ns.map V.int).length, rfl, .inl ⟨_, s05.seq hS, rfl⟩, _, _, rfl, _, _, rfl, ?_⟩
    refine ⟨1, _, rfl, ⟨by decide, by decide, ?_, ?_⟩, ?_⟩
    · rw [List.length_map]
      split <;> split <;> omega
    · rw [List.length_map]
      split <;> split <;> omega
    refine for_range (fun i σ H' => Same H H' ∧ (∃ b, (∃ u, H' b = some u) ∧ (1 + (i : Int) ≤ 3 + d2 → St1 CM CL kind H L b H') ∧ (St1 CM CL kind H L b H' ∨ St2 CM CL kind H L b H')) ∧ ∃ y1 y4 y5 y6 y7 : Option V, σ = [some (.ref sa), y1, some (.ref L), some (.int (3 + d2)), y4, y5, y6, y7])
      ⟨s05, ⟨b0, box_some hB5, fun _ => st5.1 st, st5.2⟩, _, _, _, _, _, rfl⟩ (fun i σ H6 hi hP => ?_) (fun σ H6 hP => ?_)
    · clear st st5 s05 hB4 s04 k5 hB5 hb
      obtain ⟨s6, ⟨bo, _, stA, stB⟩, y1, y4, y5, y6, y7, rfl⟩ := hP
      refine ⟨_, rfl, _, rfl, sa, ns, _, rfl, s6.seq hS, hl, by omega, fun n => ⟨n, rfl, fun b H7 hb hB7 k7 => ?_⟩⟩
      have s67 : Same H6 H7 := fun c o z => (k7 c (ne_of_none z hb)).trans z
      have s7 : Same H H7 := s6.trans s67
      have nbH : H b = none := none_of s6 hb
      have st7 : (1 + (i : Int) ≤ 3 + d2 → St1 CM CL kind H L b H7) ∧ (St1 CM CL kind H L b H7 ∨ St2 CM CL kind H L b H7) := ⟨fun z => (stA z).new hb s67, stB.imp (fun z => z.new hb s67) (fun z => z.new hb s67)⟩
      clear stA stB hb k7 s67 s6
      refine ⟨_, rfl, _, rfl, rfl, _, rfl, ite2 (fun e => ?_) (fun e => ?_)⟩
      focus
        have e2 : 1 + (i : Int) = 3 + d2 := V.int.inj (of_decide_eq_true e)
        obtain ⟨q, t, a, ow, M, hL, hLb, ent⟩ := st7.1 (by omega)
        obtain ⟨C, dx, fs, hC, e1, nl, tr⟩ := ent.reg.rk.ins
        have few := tr.few
        refine ⟨_, rfl, .inl ⟨rfl, _, SqL.of hL⟩, cp_or ent.reg.rk (fun R h => ⟨_, rfl, L, _, 0, .ref q, rfl, rfl, SqL.of hL, atI_nat (j := 0) rfl, q, _, 0, .ref t, rfl, rfl, SqL.of ent.pr, atI_nat (j := 0) rfl, h⟩) fun t2 H8 N8 n8 rk8 f8 s8 => ?_⟩
        refine ⟨_, rfl, L, _, 0, .ref q, rfl, rfl, SqL.of (s8 _ _ hL), atI_nat (j := 0) rfl, q, _, 1, .ref a, rfl, rfl, SqL.of (s8 _ _ ent.pr), atI_nat (j := 1) rfl, a, _, rfl, .inl (SqL.of (s8 _ _ ent.reg.ol)), fun a2 ha2 => ?_⟩
        refine ⟨(by show 2 ≤ sizeLine; decide), fun q2 hq2 => ?_⟩
        have na2 : H7 a2 = none := none_of s8 ha2
        have nq2 : H7 q2 = none := none_of s8 (upd_none hq2)
        have nq28 : H8 q2 = none := upd_none hq2
        have g1 := kep (u := .lst [.ref t2, .ref a2]) (kep (u := .lst (.non :: ow.map num)) (s8 _ _ hL) ha2) hq2
        refine ⟨L, _, _, rfl, rfl, g1, (by show 1 < sizeLine; decide), ?_⟩
        have s89 : Same H8 (upd (upd H8 a2 (.lst (.non :: ow.map num))) q2 (.lst [.ref t2, .ref a2])) := (same_new ha2).trans (same_new hq2)
        have ga2 : (upd (upd H8 a2 (.lst (.non :: ow.map num))) q2 (.lst [.ref t2, .ref a2])) a2 = some (.lst (.non :: ow.map num)) := kep upd_same hq2
        have gq2 : (upd (upd H8 a2 (.lst (.non :: ow.map num))) q2 (.lst [.ref t2, .ref a2])) q2 = some (.lst [.ref t2, .ref a2]) := upd_same
        have aq2 : q2 ≠ a2 := fun e => by rw [e, upd_same] at hq2; cases hq2
        generalize upd (upd H8 a2 (.lst (.non :: ow.map num))) q2 (.lst [.ref t2, .ref a2]) = H9 at *
        have s79 : Same H7 H9 := s8.trans s89
        have k9 : ∀ c u, c ≠ L → H9 c = some u → (upd H9 L (.lst ([V.ref q] ++ [V.ref q2]))) c = some u := fun c u hc z => by
          rw [upd_ne hc]
          exact z
        have gL : (upd H9 L (.lst ([V.ref q] ++ [V.ref q2]))) L = some (.lst [.ref q, .ref q2]) := upd_same
        generalize upd H9 L (.lst ([V.ref q] ++ [V.ref q2])) = H10 at *
        obtain ⟨C2, dx2, fs2, hC2, e12, nl2, tr2⟩ := rk8.ins
        have lt2 : H8 t2 ≠ none := fun z => by rw [e12] at z; cases z
        have tL : t2 ≠ L := fun e => by rw [e, hL] at n8; cases n8
        have aL : a2 ≠ L := fun e => by rw [e, hL] at na2; cases na2
        have qL2 : q2 ≠ L := fun e => by rw [e, hL] at nq2; cases nq2
        have ta2 : t2 ≠ a2 := fun e => lt2 (e ▸ ha2)
        have tq2 : t2 ≠ q2 := fun e => lt2 (e ▸ nq28)
        have M2n : ∀ c, ((N8 c ∧ c ≠ t2 ∧ H8 c ≠ none) ∨ c = t2 ∨ c = a2) → H7 c = none := fun c hc => by
          rcases hc with hc | rfl | rfl
          · exact f8 _ hc.1
          · exact n8
          · exact na2
        have M2L : ∀ c, ((N8 c ∧ c ≠ t2 ∧ H8 c ≠ none) ∨ c = t2 ∨ c = a2) → c ≠ L := fun c hc e => by
          have := M2n c hc
          rw [e, hL] at this
          cases this
        have ol2 : OwL H10 a2 ow := k9 _ _ aL ga2
        have reg2 : Reg CM CL kind H10 t2 a2 ow (fun c => (N8 c ∧ c ≠ t2 ∧ H8 c ≠ none) ∨ c = t2 ∨ c = a2) := by
          refine ⟨(rk8.cut2.kp fun c u hc z => k9 c u (M2L c (hc.imp id .inl)) (s89 _ _ z)).mono fun c hc => ⟨.inl hc, hc.2.1, fun y => hc.2.2 (y ▸ ha2)⟩, ol2, .inr (.inl rfl), .inr (.inr rfl), fun c hc => ?_⟩
          have cL := M2L c hc
          rcases hc with hc | rfl | rfl
          · cases e : H8 c with
            | none => exact absurd e hc.2.2
            | some u => rw [k9 _ _ cL (s89 _ _ e)]; exact fun z => nomatch z
          · rw [k9 _ _ cL (s89 _ _ e12)]
            exact fun z => nomatch z
          · rw [show H10 c = _ from ol2]
            exact fun z => nomatch z
        have ent1 : Ent CM CL kind H H10 L b q t a ow M := ⟨k9 _ _ ent.qL (s79 _ _ ent.pr), ent.reg.kp (fun c u hc z => k9 c u (fun y => ent.nL (y ▸ hc)) (s79 _ _ z)), ent.nq, ent.nL, ent.nb, ent.qb, ent.qL, ent.fr⟩
        have bx : ∀ c, H7 c = none → c ≠ b := fun c hc y => by
          obtain ⟨u, hu⟩ := box_some hB7
          rw [y, hu] at hc
          cases hc
        have ent2 : Ent CM CL kind H H10 L b q2 t2 a2 ow (fun c => (N8 c ∧ c ≠ t2 ∧ H8 c ≠ none) ∨ c = t2 ∨ c = a2) := by
          refine ⟨k9 _ _ qL2 gq2, reg2, ?_, fun z => M2L _ z rfl, fun z => bx _ (M2n _ z) rfl, bx _ nq2, qL2, fun c hc => none_of s7 (M2n c hc)⟩
          rintro (hc | hc | hc)
          · exact hc.2.2 nq28
          · exact tq2 hc.symm
          · exact aq2 hc
        have stN : St2 CM CL kind H L b H10 := by
          refine ⟨q, t, a, ow, M, q2, t2, a2, ow, _, gL, hLb, ent1, ent2, fun z => ent.reg.lv _ z nq2, fun z => ?_, fun c h1 h2 => ent.reg.lv _ h1 (M2n c h2)⟩
          have := M2n _ z
          rw [ent.pr] at this
          cases this
        obtain ⟨tyx, bb, kit⟩ := I C hC
        have eC : C = C2 := RK.inj ne ent.reg.rk rk8 e1 e12
        subst eC
        have e1' := k9 _ _ (fun y => ent.nL (y ▸ ent.reg.mt)) (s79 _ _ e1)
        have e2' := k9 _ _ tL (s89 _ _ e12)
        refine ⟨_, rfl, L, _, 0, .ref q, rfl, rfl, SqL.of gL, atI_nat (j := 0) rfl, q, _, 0, .ref t, rfl, rfl, SqL.of ent1.pr, atI_nat (j := 0) rfl, .ref t, .ref CL, .ref C, .ref CL, bb, rfl, .own CL, tyx _ _ _ _ e1', kit, ?_⟩
        refine ⟨_, rfl, L, _, 1, .ref q2, rfl, rfl, SqL.of gL, atI_nat (j := 1) rfl, q2, _, 0, .ref t2, rfl, rfl, SqL.of ent2.pr, atI_nat (j := 0) rfl, .ref t2, .ref CL, .ref C, .ref CL, bb, rfl, .own CL, tyx _ _ _ _ e2', kit, rfl, _, rfl, ifSame ?_⟩
        have s10 : Same H H10 := fun c u z => k9 c u (ne_of_none z hLH) (s79 _ _ (s7 _ _ z))
        have hB10 : BoxAt H10 b := box_kp (boxSame hB7 s79) fun u z => k9 _ _ hLb.symm z
        have st10 : (1 + ((i + 1 : Nat) : Int) ≤ 3 + d2 → St1 CM CL kind H L b H10) ∧ (St1 CM CL kind H L b H10 ∨ St2 CM CL kind H L b H10) := ⟨fun z => by omega, .inr stN⟩
        clear stN ent2 ent1 reg2 ol2 M2L M2n tq2 ta2 qL2 aL tL lt2 e12 nl2 tr2 hC2 gL k9 s79 aq2 gq2 ga2 s89 g1 nq28 nq2 na2 hq2 ha2 s8 f8 rk8 n8 e1' e2' tyx kit bx few tr nl e1 hC ent hLb hL st7 hB7 s7
      rotate_left
      focus
        obtain ⟨H10, rfl⟩ : ∃ X, X = H7 := ⟨_, rfl⟩
        have s10 := s7
        have hB10 := hB7
        have st10 : (1 + ((i + 1 : Nat) : Int) ≤ 3 + d2 → St1 CM CL kind H L b H10) ∧ (St1 CM CL kind H L b H10 ∨ St2 CM CL kind H L b H10) := ⟨fun z => st7.1 (by omega), st7.2⟩
        clear s7 hB7 st7
      all_goals
        obtain ⟨es, hL, es0, es2, hLb, pk⟩ := pick s10 (box_some hB10) st10.2
        refine ⟨_, rfl, _, rfl, _, rfl, .ref L, _, rfl, .inl ⟨_, SqL.of hL, rfl⟩, b, _, rfl, hB10, (by rw [List.length_map]; omega), (by rw [List.length_map]; omega), fun d3 H11 c0 c1 hB11 k11 => ?_⟩
        obtain ⟨v, hv, hat⟩ := pickK (es.map V.ref) c0 c1
        rw [List.getElem?_map] at hv
        obtain ⟨q, hq, rfl⟩ : ∃ q, es[d3.toNat]? = some q ∧ v = V.ref q := by
          cases hq : es[d3.toNat]? with
          | none =>
            rw [hq] at hv
            cases hv
          | some q =>
            rw [hq] at hv
            exact ⟨q, rfl, (Option.some.inj hv).symm⟩
        obtain ⟨t, a, ow, M, ent, back⟩ := pk _ q hq
        have hL11 := (k11 L hLb).trans hL
        have hq11 := (k11 q ent.qb).trans ent.pr
        refine ⟨L, _, d3, _, rfl, rfl, SqL.of hL11, hat, q, _, rfl, SqL.of hq11, rfl, _, _, rfl, _, _, rfl, rfl, ?_⟩
        refine ⟨_, rfl, b, 2, rfl, hB11, by decide, by decide, fun d4 H12 c2 c3 hB12 k12 => ⟨_, _, rfl, rfl, _, rfl, by omega, by omega, ?_⟩⟩
        have kp12 : ∀ c u, c ≠ b → H10 c = some u → H12 c = some u := fun c u hc z => (k12 c hc).trans ((k11 c hc).trans z)
        refine for_range (lo := 0) (fun j σ H' => ∃ (ow' : List Nat) (M' : Addr → Prop) (y7 : Option V), σ = [some (.ref sa), some (.ref b), some (.ref L), some (.int (3 + d2)), some (.int (1 + i)), some (.ref t), some (.ref a), y7] ∧
            Reg CM CL kind H' t a ow' M' ∧ BoxAt H' b ∧ ¬ M' b ∧ (∀ c u, ¬ M c → c ≠ b → H10 c = some u → H' c = some u) ∧ (∀ c, M' c → M c ∨ H10 c = none))
          ⟨ow, M, _, rfl, ent.reg.kp (fun c u hc z => kp12 c u (fun e => ent.nb (e ▸ hc)) z), hB12, ent.nb, fun c u _ hc z => kp12 c u hc z, fun c hc => .inl hc⟩ (fun j σ H13 hj hP => ?_) (fun σ H13 hP => ?_)
        · obtain ⟨ow', M', y7, rfl, reg, hB, nb', fr, nn⟩ := hP
          refine ⟨_, rfl, _, rfl, _, rfl, b, t, a, kind, M', ow', rfl, hB, reg, nb', fun H14 ow4 M4 reg4 hB4 f4 n4 => ⟨_, rfl, iteF ⟨ow4, M4, _, rfl, reg4, hB4, fun z => ?_, fun c u hc hcb z => ?_, fun c hc => ?_⟩⟩⟩
          · rcases n4 _ z with h | h
            · exact nb' h
            · obtain ⟨u, hu⟩ := box_some hB
              rw [hu] at h
              cases h
          · refine f4 c u (fun y => ?_) hcb (fr c u hc hcb z)
            rcases nn _ y with h | h
            · exact hc h
            · rw [z] at h
              cases h
          · rcases n4 _ hc with h | h
            · exact nn _ h
            · by_cases y : M c
              · exact .inl y
              · by_cases y2 : c = b
                · obtain ⟨u, hu⟩ := box_some hB
                  rw [y2, hu] at h
                  cases h
                · cases e : H10 c with
                  | none => exact .inr rfl
                  | some u =>
                    rw [fr c u y y2 e] at h
                    cases h
        · obtain ⟨ow', M', y7, rfl, reg, hB, nb', fr, nn⟩ := hP
          refine ⟨2, rfl, by decide, by decide, ?_⟩
          refine for_range (lo := 0) (n := 2) (fun j σ H' => (∃ y7 : Option V, σ = [some (.ref sa), some (.ref b), some (.ref L), some (.int (3 + d2)), some (.int (1 + i)), some (.ref t), some (.ref a), y7]) ∧ BoxAt H' b ∧ (∀ c u, c ≠ b → H13 c = some u → H' c = some u))
            ⟨⟨_, rfl⟩, hB, fun _ _ _ z => z⟩ (fun j σ H14 hj hP => ?_) (fun σ H14 hP => ?_)
          · obtain ⟨⟨y7, rfl⟩, hBj, kj⟩ := hP
            have regj := reg.kp (fun c u hc z => kj c u (fun e => nb' (e ▸ hc)) z)
            obtain ⟨C, dx, fs, hC, e1, nl, tr⟩ := regj.rk.ins
            have few := tr.few
            have hlen : (V.non :: ow'.map num).length = ow'.length + 1 := by rw [List.length_cons, List.length_map]
            refine ⟨_, rfl, _, rfl, _, rfl, _, rfl, .ref a, _, rfl, .inl ⟨_, SqL.of regj.ol, rfl⟩, b, _, rfl, hBj, (by rw [hlen]; omega), (by rw [hlen]; omega), fun d7 H15 g0 g1 hB15 k15 => ?_⟩
            have reg15 := regj.kp (fun c u hc z => (k15 c (fun e => nb' (e ▸ hc))).trans z)
            rw [hlen] at g1
            refine ⟨t, a, kind, _, ow', d7.toNat, ?_, reg15.rk, reg15.ol, by omega, fun H16 s16 => ⟨_, rfl, iteF ⟨⟨_, rfl⟩, boxSame hB15 s16, fun c u hc z => s16 _ _ ((k15 c hc).trans (kj c u hc z))⟩⟩⟩
            have ed : d7 = ((d7.toNat : Nat) : Int) := by omega
            show [V.ref t, V.ref a, V.int d7] = [V.ref t, V.ref a, V.int (d7.toNat : Nat)]
            rw [← ed]
          · obtain ⟨⟨y7, rfl⟩, hBj, kj⟩ := hP
            have regE := reg.kp (fun c u hc z => kj c u (fun e => nb' (e ▸ hc)) z)
            have bk := back H14 ow' M' regE (fun c u hc hcb z => kj c u hcb (fr c u hc hcb z)) nn
            refine ⟨fun c u z => ?_, ⟨b, box_some hBj, fun z => bk.1 (st10.1 z), bk.2⟩, _, _, _, _, _, rfl⟩
            have hcb := ne_of_none z nbH
            exact kj c u hcb (fr c u (fun y => by rw [ent.fr _ y] at z; cases z) hcb (s10 _ _ z))
    · obtain ⟨s6, ⟨bo, hbo, _, stB⟩, y1, y4, y5, y6, y7, rfl⟩ := hP
      obtain ⟨es, hL, es0, es2, hLb, pk⟩ := pick s6 hbo stB
      refine ⟨_, rfl, L, rfl, ⟨_, SqL.of hL⟩, ?_⟩
      refine for_list (K := K) (a := L) (xs := es.map V.ref) (fun j σ H' => Same H6 H' ∧ ∃ y1 y4 y5 y6 y7 : Option V, σ = [some (.ref sa), y1, some (.ref L), some (.int (3 + d2)), y4, y5, y6, y7])
        ⟨Same.refl _, _, _, _, _, _, rfl⟩ (fun j σ H' _ hP => SqL.of (hP.1 _ _ hL)) (fun j x σ H7 hj hP => ?_) (fun σ H' hP => q H')
      obtain ⟨s7, y1, y4, y5, y6, y7, rfl⟩ := hP
      rw [List.getElem?_map] at hj
      cases hq : es[j]? with
      | none =>
        rw [hq] at hj
        cases hj
      | some q =>
        rw [hq] at hj
        cases (show some (V.ref q) = some x from hj)
        obtain ⟨t, a, ow, M, ent, back⟩ := pk j q hq
        refine ⟨q, _, rfl, SqL.of (s7 _ _ ent.pr), rfl, _, _, rfl, _, _, rfl, rfl, ?_⟩
        exact ⟨_, rfl, _, rfl, t, a, kind, _, ow, rfl, ent.reg.rk.kp fun c u _ z => s7 c u z, s7 _ _ ent.reg.ol, fun H8 s8 => ⟨_, rfl, iteF ⟨s7.trans s8, _, _, _, _, _, rfl⟩⟩⟩
end
end K6
namespace K6
open PySem PySem.Spec PyProof.Rows L2 Gd Gs Ge
open C8 (clsBody Met)
theorem exm_above {K : PySem.W.Frag} {S M : Addr} (up : PySem.W.subIn K (.ref S) (.ref M) = some true) (isC : PySem.W.isClsIn K M = true) (meta_ : PySem.W.typeIn K (.ref M) = some (.type "type"))
    (exc : PySem.W.subIn K (.ref M) (.type "BaseException") = some true) : PySem.W.exmOne K (.ref S) (.ref M) = some true := by
  unfold PySem.W.isClsIn at isC
  simp [PySem.W.exmOne, PySem.W.kitCls, exc, meta_, isC, up]
theorem kit_self {K : PySem.W.Frag} {S : Addr} : PySem.W.kitOne K (.ref S) (.ref S) = some true := by
  simp [PySem.W.kitOne]
theorem tw_live {N : Addr → Prop} {H : Hp} {t C : Addr} {ow : List Nat} (r : Tw N H t C ow) : Tw (fun c => N c ∧ H c ≠ none) H t C ow := by
  obtain ⟨dx, o, d, n, fs, ns, e1, l1, l2, l3, nl, e2, e3, e4, lf, hns, od, on, dn, hin, hnd, No, Nd, Nn⟩ := r.cut.ex
  refine ⟨⟨dx, o, d, n, fs, ns, e1, l1, l2, l3, nl, e2, e3, e4, lf, hns, od, on, dn, fun i a ha => ?_, hnd, ⟨No.1, No.2.2⟩, ⟨Nd.1, Nd.2.2⟩, ⟨Nn.1, Nn.2.2⟩⟩, r.low, r.few⟩
  obtain ⟨h1, a1, a2, a3, a4⟩ := hin i a ha
  exact ⟨h1, a1, a2, a3, a4.1, a4.2.2⟩
theorem lw_same {N : Addr → Prop} {H H' : Hp} {t C : Addr} {ow : List Nat} (r : Lw C N H t ow) (s : Same H H') : Lw C N H' t ow := by
  obtain ⟨N1, N2, dx, q, fs, tw, e1, l1, lv, dis, i1, i2⟩ := r.ex
  exact ⟨N1, N2, dx, q, fs, tw.kp fun c u _ z => s c u z, s _ _ e1, l1, lv.mono (fun _ z => z) fun c u _ z => s c u z, dis, i1, i2⟩
theorem kit_no {K : PySem.W.Frag} {A B : Addr} (n : (A == B) = false) (isC : PySem.W.isClsIn K B = true) (meta_ : PySem.W.typeIn K (.ref B) = some (.type "type")) (s : PySem.W.subIn K (.ref A) (.ref B) = some false) : PySem.W.kitOne K (.ref A) (.ref B) = some false := by
  have n2 : A ≠ B := fun e => by rw [e] at n; simp at n
  unfold PySem.W.isClsIn at isC
  simp [PySem.W.kitOne, PySem.W.kitCls, n2, s, isC, meta_]
theorem exm_self {K : PySem.W.Frag} {S : Addr} (isC : PySem.W.isClsIn K S = true) (meta_ : PySem.W.typeIn K (.ref S) = some (.type "type"))
    (exc : PySem.W.subIn K (.ref S) (.type "BaseException") = some true) (m : PySem.W.subIn K (.ref S) (.ref S) = some true) : PySem.W.exmOne K (.ref S) (.ref S) = some true := by
  unfold PySem.W.isClsIn at isC
  simp [PySem.W.exmOne, PySem.W.kitCls, exc, meta_, isC, m]
theorem all_mk {l : PySem.W.OpenLaw} {w : World} {K : PySem.W.Frag} {h : Heap} {mg : Str → Option Value} {fa : Addr} (X : K.In h) (G : h.Ns mainGlobals mg) (hfa : mg "law" = some (.ref fa))
    {f0 : Addr}
    {od0 an0 : Option Addr}
    {sl0 : Array (Option Value)}
    {oc0 kV0 dc0 pm0 cd0 ct0 : Value}
    {f1 : Addr}
    {od1 an1 : Option Addr}
    {sl1 : Array (Option Value)}
    {oc1 kV1 dc1 pm1 cd1 ct1 : Value}
    {f2 : Addr}
    {od2 an2 : Option Addr}
    {sl2 : Array (Option Value)}
    {oc2 kV2 dc2 pm2 cd2 ct2 : Value}
    {f3 : Addr}
    {od3 an3 : Option Addr}
    {sl3 : Array (Option Value)}
    {oc3 kV3 dc3 pm3 cd3 ct3 : Value}
    {f4 : Addr}
    {od4 an4 : Option Addr}
    {sl4 : Array (Option Value)}
    {oc4 kV4 dc4 pm4 cd4 ct4 : Value}
    {f5 : Addr}
    {od5 an5 : Option Addr}
    {sl5 : Array (Option Value)}
    {oc5 kV5 dc5 pm5 cd5 ct5 : Value}
    {f6 : Addr}
    {od6 an6 : Option Addr}
    {sl6 : Array (Option Value)}
    {oc6 kV6 dc6 pm6 cd6 ct6 : Value}
    {f7 : Addr}
    {od7 an7 : Option Addr}
    {sl7 : Array (Option Value)}
    {oc7 kV7 dc7 pm7 cd7 ct7 : Value}
    {f8 : Addr}
    {od8 an8 : Option Addr}
    {sl8 : Array (Option Value)}
    {oc8 kV8 dc8 pm8 cd8 ct8 : Value}
    {f9 : Addr}
    {od9 an9 : Option Addr}
    {sl9 : Array (Option Value)}
    {oc9 kV9 dc9 pm9 cd9 ct9 : Value}
    {f10 : Addr}
    {od10 an10 : Option Addr}
    {sl10 : Array (Option Value)}
    {oc10 kV10 dc10 pm10 cd10 ct10 : Value}
    {t_MOST_MAKES : Tok}
    {CM : Addr}
    {CL : Addr}
    {f_CM_many : Addr}
    {od_CM_many an_CM_many : Option Addr}
    {sl_CM_many : Array (Option Value)}
    {oc_CM_many kV_CM_many dc_CM_many pm_CM_many cd_CM_many ct_CM_many : Value}
    {f_CM_need_make : Addr}
    {od_CM_need_make an_CM_need_make : Option Addr}
    {sl_CM_need_make : Array (Option Value)}
    {oc_CM_need_make kV_CM_need_make dc_CM_need_make pm_CM_need_make cd_CM_need_make ct_CM_need_make : Value}
    {f_CM_own : Addr}
    {od_CM_own an_CM_own : Option Addr}
    {sl_CM_own : Array (Option Value)}
    {oc_CM_own kV_CM_own dc_CM_own pm_CM_own cd_CM_own ct_CM_own : Value}
    {f_CM_depth : Addr}
    {od_CM_depth an_CM_depth : Option Addr}
    {sl_CM_depth : Array (Option Value)}
    {oc_CM_depth kV_CM_depth dc_CM_depth pm_CM_depth cd_CM_depth ct_CM_depth : Value}
    {f_CM_on : Addr}
    {od_CM_on an_CM_on : Option Addr}
    {sl_CM_on : Array (Option Value)}
    {oc_CM_on kV_CM_on dc_CM_on pm_CM_on cd_CM_on ct_CM_on : Value}
    {f_CM_grown_alike : Addr}
    {od_CM_grown_alike an_CM_grown_alike : Option Addr}
    {sl_CM_grown_alike : Array (Option Value)}
    {oc_CM_grown_alike kV_CM_grown_alike dc_CM_grown_alike pm_CM_grown_alike cd_CM_grown_alike ct_CM_grown_alike : Value}
    {f_CM_grow : Addr}
    {od_CM_grow an_CM_grow : Option Addr}
    {sl_CM_grow : Array (Option Value)}
    {oc_CM_grow kV_CM_grow dc_CM_grow pm_CM_grow cd_CM_grow ct_CM_grow : Value}
    {f_CM_init : Addr}
    {od_CM_init an_CM_init : Option Addr}
    {sl_CM_init : Array (Option Value)}
    {oc_CM_init kV_CM_init dc_CM_init pm_CM_init cd_CM_init ct_CM_init : Value}
    {f_CM_copied : Addr}
    {od_CM_copied an_CM_copied : Option Addr}
    {sl_CM_copied : Array (Option Value)}
    {oc_CM_copied kV_CM_copied dc_CM_copied pm_CM_copied cd_CM_copied ct_CM_copied : Value}
    {f_CL_leaps_through : Addr}
    {od_CL_leaps_through an_CL_leaps_through : Option Addr}
    {sl_CL_leaps_through : Array (Option Value)}
    {oc_CL_leaps_through kV_CL_leaps_through dc_CL_leaps_through pm_CL_leaps_through cd_CL_leaps_through ct_CL_leaps_through : Value}
    {f_CL_copied : Addr}
    {od_CL_copied an_CL_copied : Option Addr}
    {sl_CL_copied : Array (Option Value)}
    {oc_CL_copied kV_CL_copied dc_CL_copied pm_CL_copied cd_CL_copied ct_CL_copied : Value}
    {ic_CL : PySem.ClassData}
    {xc_CL : Value}
    {xd_CL : Option Addr}
    {xs_CL : Array (Option Value)}
    {f_CL_grow cc_CL_grow co_CL_grow : Addr}
    {od_CL_grow an_CL_grow cdd_CL_grow cld_CL_grow : Option Addr}
    {oc_CL_grow dc_CL_grow pm_CL_grow ct_CL_grow ccl_CL_grow cv_CL_grow : Value}
    {sl_CL_grow ccs_CL_grow csl_CL_grow : Array (Option Value)}
    {vs_CL_grow : Array Value}
    {tf_CL_grow : Tok}
    {file_CL_grow : Str}
    {f_CL_init cc_CL_init co_CL_init : Addr}
    {od_CL_init an_CL_init cdd_CL_init cld_CL_init : Option Addr}
    {oc_CL_init dc_CL_init pm_CL_init ct_CL_init ccl_CL_init cv_CL_init : Value}
    {sl_CL_init ccs_CL_init csl_CL_init : Array (Option Value)}
    {vs_CL_init : Array Value}
    {tf_CL_init : Tok}
    {file_CL_init : Str}
    {CE : Addr}
    {nmT qT fileT : Str} {CT fT NT cdaT ccT : Addr} {bsT subT : List Value} {snT : List Str} {abT : Bool} {colT : Option Bool} {ddT odT anT cddT cldT : Option Addr} {m0T m1T m2T m3T m5T : Option Value} {ocT dcT pmT ctT cclT clT : Value} {slT ccsT cslT : Array (Option Value)} {vsT : Array Value} {tfT : Tok} {kdT : Nat} {r1T r2T p1T p2T p3T p4T p5T p6T q1T q2T q3T q4T : Pos}
    (a0 : PySem.W.nsIn K mainGlobals "is_whole" = some (some (.ref f0)))
    (l0 : K.lookup f0 = some ⟨oc0, od0, .func (PySem.W.fnOf "is_whole" "is_whole" (defArgs s_is_whole) (defBody s_is_whole) (defScope s_is_whole) .none kV0 dc0 pm0 an0 cd0 ct0), sl0⟩)
    (c0 : PySem.W.codeIn K cd0 "is_whole" = true)
    (k0 : PySem.W.keepIn K (.ref f0) = true)
    (a1 : PySem.W.nsIn K mainGlobals "_law_cell" = some (some (.ref f1)))
    (l1 : K.lookup f1 = some ⟨oc1, od1, .func (PySem.W.fnOf "_law_cell" "_law_cell" (defArgs s__law_cell) (defBody s__law_cell) (defScope s__law_cell) .none kV1 dc1 pm1 an1 cd1 ct1), sl1⟩)
    (c1 : PySem.W.codeIn K cd1 "_law_cell" = true)
    (k1 : PySem.W.keepIn K (.ref f1) = true)
    (a2 : PySem.W.nsIn K mainGlobals "_law_box" = some (some (.ref f2)))
    (l2 : K.lookup f2 = some ⟨oc2, od2, .func (PySem.W.fnOf "_law_box" "_law_box" (defArgs s__law_box) (defBody s__law_box) (defScope s__law_box) .none kV2 dc2 pm2 an2 cd2 ct2), sl2⟩)
    (c2 : PySem.W.codeIn K cd2 "_law_box" = true)
    (k2 : PySem.W.keepIn K (.ref f2) = true)
    (a3 : PySem.W.nsIn K mainGlobals "_law_take" = some (some (.ref f3)))
    (l3 : K.lookup f3 = some ⟨oc3, od3, .func (PySem.W.fnOf "_law_take" "_law_take" (defArgs s__law_take) (defBody s__law_take) (defScope s__law_take) .none kV3 dc3 pm3 an3 cd3 ct3), sl3⟩)
    (c3 : PySem.W.codeIn K cd3 "_law_take" = true)
    (k3 : PySem.W.keepIn K (.ref f3) = true)
    (a4 : PySem.W.nsIn K mainGlobals "_law_pick" = some (some (.ref f4)))
    (l4 : K.lookup f4 = some ⟨oc4, od4, .func (PySem.W.fnOf "_law_pick" "_law_pick" (defArgs s__law_pick) (defBody s__law_pick) (defScope s__law_pick) .none kV4 dc4 pm4 an4 cd4 ct4), sl4⟩)
    (c4 : PySem.W.codeIn K cd4 "_law_pick" = true)
    (k4 : PySem.W.keepIn K (.ref f4) = true)
    (a5 : PySem.W.nsIn K mainGlobals "_law_tree" = some (some (.ref f5)))
    (l5 : K.lookup f5 = some ⟨oc5, od5, .func (PySem.W.fnOf "_law_tree" "_law_tree" (defArgs s__law_tree) (defBody s__law_tree) (defScope s__law_tree) .none kV5 dc5 pm5 an5 cd5 ct5), sl5⟩)
    (c5 : PySem.W.codeIn K cd5 "_law_tree" = true)
    (k5 : PySem.W.keepIn K (.ref f5) = true)
    (a6 : PySem.W.nsIn K mainGlobals "_law_line" = some (some (.ref f6)))
    (l6 : K.lookup f6 = some ⟨oc6, od6, .func (PySem.W.fnOf "_law_line" "_law_line" (defArgs s__law_line) (defBody s__law_line) (defScope s__law_line) .none kV6 dc6 pm6 an6 cd6 ct6), sl6⟩)
    (c6 : PySem.W.codeIn K cd6 "_law_line" = true)
    (k6 : PySem.W.keepIn K (.ref f6) = true)
    (a7 : PySem.W.nsIn K mainGlobals "_law_make_right" = some (some (.ref f7)))
    (l7 : K.lookup f7 = some ⟨oc7, od7, .func (PySem.W.fnOf "_law_make_right" "_law_make_right" (defArgs s__law_make_right) (defBody s__law_make_right) (defScope s__law_make_right) .none kV7 dc7 pm7 an7 cd7 ct7), sl7⟩)
    (c7 : PySem.W.codeIn K cd7 "_law_make_right" = true)
    (k7 : PySem.W.keepIn K (.ref f7) = true)
    (a8 : PySem.W.nsIn K mainGlobals "_law_grown" = some (some (.ref f8)))
    (l8 : K.lookup f8 = some ⟨oc8, od8, .func (PySem.W.fnOf "_law_grown" "_law_grown" (defArgs s__law_grown) (defBody s__law_grown) (defScope s__law_grown) .none kV8 dc8 pm8 an8 cd8 ct8), sl8⟩)
    (c8 : PySem.W.codeIn K cd8 "_law_grown" = true)
    (k8 : PySem.W.keepIn K (.ref f8) = true)
    (a9 : PySem.W.nsIn K mainGlobals "_law_all_right" = some (some (.ref f9)))
    (l9 : K.lookup f9 = some ⟨oc9, od9, .func (PySem.W.fnOf "_law_all_right" "_law_all_right" (defArgs s__law_all_right) (defBody s__law_all_right) (defScope s__law_all_right) .none kV9 dc9 pm9 an9 cd9 ct9), sl9⟩)
    (c9 : PySem.W.codeIn K cd9 "_law_all_right" = true)
    (k9 : PySem.W.keepIn K (.ref f9) = true)
    (a10 : PySem.W.nsIn K mainGlobals "law" = some (some (.ref f10)))
    (l10 : K.lookup f10 = some ⟨oc10, od10, .func (PySem.W.fnOf "law" "law" (defArgs s_law) (defBody s_law) (defScope s_law) .none kV10 dc10 pm10 an10 cd10 ct10), sl10⟩)
    (c10 : PySem.W.codeIn K cd10 "law" = true)
    (k10 : PySem.W.keepIn K (.ref f10) = true)
    (z_len : PySem.W.nsIn K mainGlobals "len" = some none)
    (z_max : PySem.W.nsIn K mainGlobals "max" = some none)
    (z_min : PySem.W.nsIn K mainGlobals "min" = some none)
    (z_range : PySem.W.nsIn K mainGlobals "range" = some none)
    (z_repr : PySem.W.nsIn K mainGlobals "repr" = some none)
    (z_zip : PySem.W.nsIn K mainGlobals "zip" = some none)
    (z_isinstance : PySem.W.nsIn K mainGlobals "isinstance" = some none)
    (z_int : PySem.W.nsIn K mainGlobals "int" = some none)
    (z_bool : PySem.W.nsIn K mainGlobals "bool" = some none)
    (z_list : PySem.W.nsIn K mainGlobals "list" = some none)
    (i_MOST_MAKES : PySem.W.nsIn K mainGlobals "MOST_MAKES" = some (some (.int 64 t_MOST_MAKES)))
    (a_CM : PySem.W.nsIn K mainGlobals "MakeTree" = some (some (.ref CM)))
    (pg_CM : PySem.W.plainGet K CM Str.empty = true)
    (hd_CM : PySem.W.hasDictIn K CM = true)
    (po_CM : PySem.W.plainOver K CM = true)
    (sa_CM : PySem.W.findIn K (.ref CM) "__setattr__" = some (some (.builtin "object.__setattr__")))
    (no_CM__owns : PySem.W.findIn K (.ref CM) "_owns" = some none)
    (no_CM__depths : PySem.W.findIn K (.ref CM) "_depths" = some none)
    (no_CM__on : PySem.W.findIn K (.ref CM) "_on" = some none)
    (no_CM__leaps : PySem.W.findIn K (.ref CM) "_leaps" = some none)
    (mk_CM : PySem.W.makesIn K CM = true)
    (kp_CM : PySem.W.keepIn K (.ref CM) = true)
    (a_CL : PySem.W.nsIn K mainGlobals "LeapTree" = some (some (.ref CL)))
    (pg_CL : PySem.W.plainGet K CL Str.empty = true)
    (hd_CL : PySem.W.hasDictIn K CL = true)
    (po_CL : PySem.W.plainOver K CL = true)
    (sa_CL : PySem.W.findIn K (.ref CL) "__setattr__" = some (some (.builtin "object.__setattr__")))
    (no_CL__owns : PySem.W.findIn K (.ref CL) "_owns" = some none)
    (no_CL__depths : PySem.W.findIn K (.ref CL) "_depths" = some none)
    (no_CL__on : PySem.W.findIn K (.ref CL) "_on" = some none)
    (no_CL__leaps : PySem.W.findIn K (.ref CL) "_leaps" = some none)
    (mk_CL : PySem.W.makesIn K CL = true)
    (kp_CL : PySem.W.keepIn K (.ref CL) = true)
    (m_CM_many : PySem.W.findIn K (.ref CM) "many" = some (some (.ref f_CM_many)))
    (l_CM_many : K.lookup f_CM_many = some ⟨oc_CM_many, od_CM_many, .func (PySem.W.fnOf "many" "MakeTree.many" (defArgs s_MakeTree_many) (defBody s_MakeTree_many) (defScope s_MakeTree_many) .none kV_CM_many dc_CM_many pm_CM_many an_CM_many cd_CM_many ct_CM_many), sl_CM_many⟩)
    (c_CM_many : PySem.W.codeIn K cd_CM_many "MakeTree.many" = true)
    (k_CM_many : PySem.W.keepIn K (.ref f_CM_many) = true)
    (y_CM_many : PySem.W.isFn K (.ref f_CM_many) = true)
    (m_CM_many_CL : PySem.W.findIn K (.ref CL) "many" = some (some (.ref f_CM_many)))
    (m_CM_need_make : PySem.W.findIn K (.ref CM) "_need_make" = some (some (.ref f_CM_need_make)))
    (l_CM_need_make : K.lookup f_CM_need_make = some ⟨oc_CM_need_make, od_CM_need_make, .func (PySem.W.fnOf "_need_make" "MakeTree._need_make" (defArgs s_MakeTree__need_make) (defBody s_MakeTree__need_make) (defScope s_MakeTree__need_make) .none kV_CM_need_make dc_CM_need_make pm_CM_need_make an_CM_need_make cd_CM_need_make ct_CM_need_make), sl_CM_need_make⟩)
    (c_CM_need_make : PySem.W.codeIn K cd_CM_need_make "MakeTree._need_make" = true)
    (k_CM_need_make : PySem.W.keepIn K (.ref f_CM_need_make) = true)
    (y_CM_need_make : PySem.W.isFn K (.ref f_CM_need_make) = true)
    (m_CM_need_make_CL : PySem.W.findIn K (.ref CL) "_need_make" = some (some (.ref f_CM_need_make)))
    (m_CM_own : PySem.W.findIn K (.ref CM) "own" = some (some (.ref f_CM_own)))
    (l_CM_own : K.lookup f_CM_own = some ⟨oc_CM_own, od_CM_own, .func (PySem.W.fnOf "own" "MakeTree.own" (defArgs s_MakeTree_own) (defBody s_MakeTree_own) (defScope s_MakeTree_own) .none kV_CM_own dc_CM_own pm_CM_own an_CM_own cd_CM_own ct_CM_own), sl_CM_own⟩)
    (c_CM_own : PySem.W.codeIn K cd_CM_own "MakeTree.own" = true)
    (k_CM_own : PySem.W.keepIn K (.ref f_CM_own) = true)
    (y_CM_own : PySem.W.isFn K (.ref f_CM_own) = true)
    (m_CM_own_CL : PySem.W.findIn K (.ref CL) "own" = some (some (.ref f_CM_own)))
    (m_CM_depth : PySem.W.findIn K (.ref CM) "depth" = some (some (.ref f_CM_depth)))
    (l_CM_depth : K.lookup f_CM_depth = some ⟨oc_CM_depth, od_CM_depth, .func (PySem.W.fnOf "depth" "MakeTree.depth" (defArgs s_MakeTree_depth) (defBody s_MakeTree_depth) (defScope s_MakeTree_depth) .none kV_CM_depth dc_CM_depth pm_CM_depth an_CM_depth cd_CM_depth ct_CM_depth), sl_CM_depth⟩)
    (c_CM_depth : PySem.W.codeIn K cd_CM_depth "MakeTree.depth" = true)
    (k_CM_depth : PySem.W.keepIn K (.ref f_CM_depth) = true)
    (y_CM_depth : PySem.W.isFn K (.ref f_CM_depth) = true)
    (m_CM_depth_CL : PySem.W.findIn K (.ref CL) "depth" = some (some (.ref f_CM_depth)))
    (m_CM_on : PySem.W.findIn K (.ref CM) "on" = some (some (.ref f_CM_on)))
    (l_CM_on : K.lookup f_CM_on = some ⟨oc_CM_on, od_CM_on, .func (PySem.W.fnOf "on" "MakeTree.on" (defArgs s_MakeTree_on) (defBody s_MakeTree_on) (defScope s_MakeTree_on) .none kV_CM_on dc_CM_on pm_CM_on an_CM_on cd_CM_on ct_CM_on), sl_CM_on⟩)
    (c_CM_on : PySem.W.codeIn K cd_CM_on "MakeTree.on" = true)
    (k_CM_on : PySem.W.keepIn K (.ref f_CM_on) = true)
    (y_CM_on : PySem.W.isFn K (.ref f_CM_on) = true)
    (m_CM_on_CL : PySem.W.findIn K (.ref CL) "on" = some (some (.ref f_CM_on)))
    (m_CM_grown_alike : PySem.W.findIn K (.ref CM) "_grown_alike" = some (some (.ref f_CM_grown_alike)))
    (l_CM_grown_alike : K.lookup f_CM_grown_alike = some ⟨oc_CM_grown_alike, od_CM_grown_alike, .func (PySem.W.fnOf "_grown_alike" "MakeTree._grown_alike" (defArgs s_MakeTree__grown_alike) (defBody s_MakeTree__grown_alike) (defScope s_MakeTree__grown_alike) .none kV_CM_grown_alike dc_CM_grown_alike pm_CM_grown_alike an_CM_grown_alike cd_CM_grown_alike ct_CM_grown_alike), sl_CM_grown_alike⟩)
    (c_CM_grown_alike : PySem.W.codeIn K cd_CM_grown_alike "MakeTree._grown_alike" = true)
    (k_CM_grown_alike : PySem.W.keepIn K (.ref f_CM_grown_alike) = true)
    (y_CM_grown_alike : PySem.W.isFn K (.ref f_CM_grown_alike) = true)
    (m_CM_grown_alike_CL : PySem.W.findIn K (.ref CL) "_grown_alike" = some (some (.ref f_CM_grown_alike)))
    (m_CM_grow : PySem.W.findIn K (.ref CM) "grow" = some (some (.ref f_CM_grow)))
    (l_CM_grow : K.lookup f_CM_grow = some ⟨oc_CM_grow, od_CM_grow, .func (PySem.W.fnOf "grow" "MakeTree.grow" (defArgs s_MakeTree_grow) (defBody s_MakeTree_grow) (defScope s_MakeTree_grow) .none kV_CM_grow dc_CM_grow pm_CM_grow an_CM_grow cd_CM_grow ct_CM_grow), sl_CM_grow⟩)
    (c_CM_grow : PySem.W.codeIn K cd_CM_grow "MakeTree.grow" = true)
    (k_CM_grow : PySem.W.keepIn K (.ref f_CM_grow) = true)
    (y_CM_grow : PySem.W.isFn K (.ref f_CM_grow) = true)
    (m_CM_init : PySem.W.findIn K (.ref CM) "__init__" = some (some (.ref f_CM_init)))
    (l_CM_init : K.lookup f_CM_init = some ⟨oc_CM_init, od_CM_init, .func (PySem.W.fnOf "__init__" "MakeTree.__init__" (defArgs s_MakeTree___init__) (defBody s_MakeTree___init__) (defScope s_MakeTree___init__) .none kV_CM_init dc_CM_init pm_CM_init an_CM_init cd_CM_init ct_CM_init), sl_CM_init⟩)
    (c_CM_init : PySem.W.codeIn K cd_CM_init "MakeTree.__init__" = true)
    (k_CM_init : PySem.W.keepIn K (.ref f_CM_init) = true)
    (y_CM_init : PySem.W.isFn K (.ref f_CM_init) = true)
    (m_CM_copied : PySem.W.findIn K (.ref CM) "copied" = some (some (.ref f_CM_copied)))
    (l_CM_copied : K.lookup f_CM_copied = some ⟨oc_CM_copied, od_CM_copied, .func (PySem.W.fnOf "copied" "MakeTree.copied" (defArgs s_MakeTree_copied) (defBody s_MakeTree_copied) (defScope s_MakeTree_copied) .none kV_CM_copied dc_CM_copied pm_CM_copied an_CM_copied cd_CM_copied ct_CM_copied), sl_CM_copied⟩)
    (c_CM_copied : PySem.W.codeIn K cd_CM_copied "MakeTree.copied" = true)
    (k_CM_copied : PySem.W.keepIn K (.ref f_CM_copied) = true)
    (y_CM_copied : PySem.W.isFn K (.ref f_CM_copied) = true)
    (m_CL_leaps_through : PySem.W.findIn K (.ref CL) "_leaps_through" = some (some (.ref f_CL_leaps_through)))
    (l_CL_leaps_through : K.lookup f_CL_leaps_through = some ⟨oc_CL_leaps_through, od_CL_leaps_through, .func (PySem.W.fnOf "_leaps_through" "LeapTree._leaps_through" (defArgs s_LeapTree__leaps_through) (defBody s_LeapTree__leaps_through) (defScope s_LeapTree__leaps_through) .none kV_CL_leaps_through dc_CL_leaps_through pm_CL_leaps_through an_CL_leaps_through cd_CL_leaps_through ct_CL_leaps_through), sl_CL_leaps_through⟩)
    (c_CL_leaps_through : PySem.W.codeIn K cd_CL_leaps_through "LeapTree._leaps_through" = true)
    (k_CL_leaps_through : PySem.W.keepIn K (.ref f_CL_leaps_through) = true)
    (y_CL_leaps_through : PySem.W.isFn K (.ref f_CL_leaps_through) = true)
    (m_CL_copied : PySem.W.findIn K (.ref CL) "copied" = some (some (.ref f_CL_copied)))
    (l_CL_copied : K.lookup f_CL_copied = some ⟨oc_CL_copied, od_CL_copied, .func (PySem.W.fnOf "copied" "LeapTree.copied" (defArgs s_LeapTree_copied) (defBody s_LeapTree_copied) (defScope s_LeapTree_copied) .none kV_CL_copied dc_CL_copied pm_CL_copied an_CL_copied cd_CL_copied ct_CL_copied), sl_CL_copied⟩)
    (c_CL_copied : PySem.W.codeIn K cd_CL_copied "LeapTree.copied" = true)
    (k_CL_copied : PySem.W.keepIn K (.ref f_CL_copied) = true)
    (y_CL_copied : PySem.W.isFn K (.ref f_CL_copied) = true)
    (op : PySem.W.nsIn K cStatics "thirdparty.any" = some none)
    (zs : PySem.W.nsIn K mainGlobals "super" = some none)
    (htop : (l.prog.main.scope.names.lookup ("super" : Str)).isSome = false)
    (x_CL : K.lookup CL = some ⟨xc_CL, xd_CL, .cls ic_CL, xs_CL⟩)
    (mm_CL : PySem.W.mroIn K CL (.ref CL) = some true)
    (m_CL_grow : PySem.W.findIn K (.ref CL) "grow" = some (some (.ref f_CL_grow)))
    (l_CL_grow : K.lookup f_CL_grow = some ⟨oc_CL_grow, od_CL_grow, .func (PySem.W.ksFn "grow" "LeapTree.grow" (defArgs s_LeapTree_grow) (defBody s_LeapTree_grow) (defScope s_LeapTree_grow) .none .none dc_CL_grow pm_CL_grow an_CL_grow (.ref co_CL_grow) ct_CL_grow cc_CL_grow), sl_CL_grow⟩)
    (c_CL_grow : PySem.W.codeIn K (.ref co_CL_grow) "LeapTree.grow" = true)
    (y_CL_grow : PySem.W.isFn K (.ref f_CL_grow) = true)
    (k_CL_grow : PySem.W.keepIn K (.ref f_CL_grow) = true)
    (dl_CL_grow : K.lookup co_CL_grow = some ⟨ccl_CL_grow, cdd_CL_grow, .fields vs_CL_grow, ccs_CL_grow⟩)
    (fv_CL_grow : vs_CL_grow[2]? = some (.str file_CL_grow tf_CL_grow))
    (fl_CL_grow : ((l.prog.main.file : Str) == file_CL_grow) = true)
    (zc_CL_grow : K.lookup cc_CL_grow = some ⟨cv_CL_grow, cld_CL_grow, .cell (some (.ref CL)), csl_CL_grow⟩)
    (su_CL_grow : PySem.W.ks_superIn K CL CL "grow" = some (some (.ref f_CM_grow)))
    (ty_CL_grow : PySem.W.typeIn K (.ref f_CM_grow) = some (.type "function"))
    (fg_CL_grow : PySem.W.fnIn K f_CM_grow = true)
    (m_CL_init : PySem.W.findIn K (.ref CL) "__init__" = some (some (.ref f_CL_init)))
    (l_CL_init : K.lookup f_CL_init = some ⟨oc_CL_init, od_CL_init, .func (PySem.W.ksFn "__init__" "LeapTree.__init__" (defArgs s_LeapTree___init__) (defBody s_LeapTree___init__) (defScope s_LeapTree___init__) .none .none dc_CL_init pm_CL_init an_CL_init (.ref co_CL_init) ct_CL_init cc_CL_init), sl_CL_init⟩)
    (c_CL_init : PySem.W.codeIn K (.ref co_CL_init) "LeapTree.__init__" = true)
    (y_CL_init : PySem.W.isFn K (.ref f_CL_init) = true)
    (k_CL_init : PySem.W.keepIn K (.ref f_CL_init) = true)
    (dl_CL_init : K.lookup co_CL_init = some ⟨ccl_CL_init, cdd_CL_init, .fields vs_CL_init, ccs_CL_init⟩)
    (fv_CL_init : vs_CL_init[2]? = some (.str file_CL_init tf_CL_init))
    (fl_CL_init : ((l.prog.main.file : Str) == file_CL_init) = true)
    (zc_CL_init : K.lookup cc_CL_init = some ⟨cv_CL_init, cld_CL_init, .cell (some (.ref CL)), csl_CL_init⟩)
    (su_CL_init : PySem.W.ks_superIn K CL CL "__init__" = some (some (.ref f_CM_init)))
    (ty_CL_init : PySem.W.typeIn K (.ref f_CM_init) = some (.type "function"))
    (fg_CL_init : PySem.W.fnIn K f_CM_init = true)
    (aE : PySem.W.nsIn K mainGlobals "MakesError" = some (some (.ref CE)))
    (iE : PySem.W.isClsIn K CE = true)
    (yE : PySem.W.typeIn K (.ref CE) = some (.type "type"))
    (eE : PySem.W.subIn K (.ref CE) (.type "BaseException") = some true)
    (aT : PySem.W.nsIn K mainGlobals "TooMany" = some (some (.ref CT)))
    (xT : K.lookup CT = some (excClassObj nmT qT CT NT bsT [.ref CE, .type "ValueError", .type "Exception", .type "BaseException", .type "object"] true snT subT abT colT ddT m0T m1T m2T m3T m5T "ValueError.__new__"))
    (saT : PySem.W.findIn K (.ref CT) "__setattr__" = some (some (.builtin "object.__setattr__")))
    (gaT : PySem.W.findIn K (.ref CT) "__getattribute__" = some (some (.builtin "BaseException.__getattribute__")))
    (ggT : PySem.W.findIn K (.ref CT) "__getattr__" = some none)
    (nnT : PySem.W.findIn K (.ref CT) "count" = some none)
    (iiT : PySem.W.findIn K (.ref CT) "__init__" = some (some (.ref fT)))
    (ttT : PySem.W.typeIn K (.ref fT) = some (.type "function"))
    (kkT : PySem.W.keepIn K (.ref CT) = true)
    (eeT : PySem.W.subIn K (.ref CT) (.type "BaseException") = some true)
    (veT : PySem.W.subIn K (.ref CT) (.type "ValueError") = some true)
    (tyT : PySem.W.typeIn K (.ref CT) = some (.type "type"))
    (hdT : PySem.W.hasDictIn K CT = true)
    (mmT : PySem.W.mroIn K CT (.ref CT) = some true)
    (suT : PySem.W.ks_superIn K CT CT "__init__" = some (some (.builtin "ValueError.__init__")))
    (llT : K.lookup fT = some ⟨ocT, odT, .func (PySem.W.ksFn "__init__" "TooMany.__init__" (Gc.iA r1T r2T) (Gc.iB "there would be too many" kdT p1T p2T p3T p4T p5T p6T q1T q2T q3T q4T) Gc.iS .none .none dcT pmT anT (.ref cdaT) ctT ccT), slT⟩)
    (ciT : PySem.W.codeIn K (.ref cdaT) "TooMany.__init__" = true)
    (dlT : K.lookup cdaT = some ⟨cclT, cddT, .fields vsT, ccsT⟩)
    (fvT : vsT[2]? = some (.str fileT tfT))
    (flT : ((l.prog.main.file : Str) == fileT) = true)
    (zcT : K.lookup ccT = some ⟨clT, cldT, .cell (some (.ref CT)), cslT⟩)
    (plT : (p3T.endLine == p5T.line) = true)
    (h1T : PySem.W.findIn K (.ref CT) "__class__" = some (some (.builtin "object.__class__")))
    (h2T : PySem.W.specialIn K (.builtin "object.__class__") "__get__" = some (some (.builtin "getset_descriptor.__get__")))
    (h3T : PySem.W.takesIn K (.builtin "object.__class__") = some true)
    (h4T : PySem.W.mroIn K CT (.type "object") = some true)
    (smT : PySem.W.subIn K (.ref CT) (.ref CE) = some true)
    (ia_CM : PySem.W.findIn K (.ref CM) "__class__" = some (some (.builtin "object.__class__")))
    (im_CM : PySem.W.mroIn K CM (.type "object") = some true)
    (ia_CL : PySem.W.findIn K (.ref CL) "__class__" = some (some (.builtin "object.__class__")))
    (im_CL : PySem.W.mroIn K CL (.type "object") = some true)
    (kML : PySem.W.subIn K (.ref CM) (.ref CL) = some false)
    (ne_ : (CM == CL) = false)
    (ssT : PySem.W.subIn K (.ref CT) (.ref CT) = some true)
    (icL : PySem.W.isClsIn K CL = true)
    (ytL : PySem.W.typeIn K (.ref CL) = some (.type "type"))
    (iT : PySem.W.isClsIn K CT = true)
    : ∃ fd : FuncData, (∀ (s : Shared) (v : Value), BindsTo s fd ⟨[v], []⟩ [("_law_script", v)]) ∧ ∀ base : Heap, K.In base → base.Ns mainGlobals mg → FnG l.prog w K mg base CX0 7 fa fd ["_law_script"] (spLaw K) := by
  have e := hfa.symm.trans (PySem.W.mg_of X G a10)
  cases e
  have d_is_whole : DefAt K mg "is_whole" s_is_whole ["thing", "low", "high"] := defAt (PySem.W.mg_of X G a0) l0 c0 k0 (fun _ _ _ _ _ _ us hl => match us, hl with | [_, _, _], _ => rfl)
  have d__law_cell : DefAt K mg "_law_cell" s__law_cell ["_law_script", "_law_k"] := defAt (PySem.W.mg_of X G a1) l1 c1 k1 (fun _ _ _ _ _ _ us hl => match us, hl with | [_, _], _ => rfl)
  have d__law_box : DefAt K mg "_law_box" s__law_box ["_law_cell_here"] := defAt (PySem.W.mg_of X G a2) l2 c2 k2 (fun _ _ _ _ _ _ us hl => match us, hl with | [_], _ => rfl)
  have d__law_take : DefAt K mg "_law_take" s__law_take ["_law_box_here", "_law_many"] := defAt (PySem.W.mg_of X G a3) l3 c3 k3 (fun _ _ _ _ _ _ us hl => match us, hl with | [_, _], _ => rfl)
  have d__law_pick : DefAt K mg "_law_pick" s__law_pick ["_law_box_here", "_law_many"] := defAt (PySem.W.mg_of X G a4) l4 c4 k4 (fun _ _ _ _ _ _ us hl => match us, hl with | [_, _], _ => rfl)
  have d__law_tree : DefAt K mg "_law_tree" s__law_tree ["_law_kind"] := defAt (PySem.W.mg_of X G a5) l5 c5 k5 (fun _ _ _ _ _ _ us hl => match us, hl with | [_], _ => rfl)
  have d__law_line : DefAt K mg "_law_line" s__law_line ["_law_owners", "_law_make"] := defAt (PySem.W.mg_of X G a6) l6 c6 k6 (fun _ _ _ _ _ _ us hl => match us, hl with | [_, _], _ => rfl)
  have d__law_make_right : DefAt K mg "_law_make_right" s__law_make_right ["_law_tree_here", "_law_owners", "_law_make"] := defAt (PySem.W.mg_of X G a7) l7 c7 k7 (fun _ _ _ _ _ _ us hl => match us, hl with | [_, _, _], _ => rfl)
  have d__law_grown : DefAt K mg "_law_grown" s__law_grown ["_law_box_here", "_law_tree_here", "_law_owners"] := defAt (PySem.W.mg_of X G a8) l8 c8 k8 (fun _ _ _ _ _ _ us hl => match us, hl with | [_, _, _], _ => rfl)
  have d__law_all_right : DefAt K mg "_law_all_right" s__law_all_right ["_law_tree_here", "_law_owners"] := defAt (PySem.W.mg_of X G a9) l9 c9 k9 (fun _ _ _ _ _ _ us hl => match us, hl with | [_, _], _ => rfl)
  have F_law := fun_mk (st := s_law) l10 c10 k10
  have cl_CM : Cls K CM := ⟨pg_CM, hd_CM, po_CM, sa_CM⟩
  have cl_CL : Cls K CL := ⟨pg_CL, hd_CL, po_CL, sa_CL⟩
  have F_CM_many := fun_mk (st := s_MakeTree_many) l_CM_many c_CM_many k_CM_many
  have B_CM_many : Binds K _ ["self"] [] := F_CM_many.binds (ps := ["self"]) (fun _ _ _ _ _ _ us hl => match us, hl with | [_], _ => rfl)
  have M_CM_many : MAt K CM "many" "MakeTree.many" s_MakeTree_many ["self"] := ⟨_, _, F_CM_many, ⟨m_CM_many, y_CM_many, k_CM_many⟩, B_CM_many⟩
  have M_CM_many_CL : MAt K CL "many" "MakeTree.many" s_MakeTree_many ["self"] := ⟨_, _, F_CM_many, ⟨m_CM_many_CL, y_CM_many, k_CM_many⟩, B_CM_many⟩
  have F_CM_need_make := fun_mk (st := s_MakeTree__need_make) l_CM_need_make c_CM_need_make k_CM_need_make
  have B_CM_need_make : Binds K _ ["self", "make"] [] := F_CM_need_make.binds (ps := ["self", "make"]) (fun _ _ _ _ _ _ us hl => match us, hl with | [_, _], _ => rfl)
  have M_CM_need_make : MAt K CM "_need_make" "MakeTree._need_make" s_MakeTree__need_make ["self", "make"] := ⟨_, _, F_CM_need_make, ⟨m_CM_need_make, y_CM_need_make, k_CM_need_make⟩, B_CM_need_make⟩
  have M_CM_need_make_CL : MAt K CL "_need_make" "MakeTree._need_make" s_MakeTree__need_make ["self", "make"] := ⟨_, _, F_CM_need_make, ⟨m_CM_need_make_CL, y_CM_need_make, k_CM_need_make⟩, B_CM_need_make⟩
  have F_CM_own := fun_mk (st := s_MakeTree_own) l_CM_own c_CM_own k_CM_own
  have B_CM_own : Binds K _ ["self", "make"] [] := F_CM_own.binds (ps := ["self", "make"]) (fun _ _ _ _ _ _ us hl => match us, hl with | [_, _], _ => rfl)
  have M_CM_own : MAt K CM "own" "MakeTree.own" s_MakeTree_own ["self", "make"] := ⟨_, _, F_CM_own, ⟨m_CM_own, y_CM_own, k_CM_own⟩, B_CM_own⟩
  have M_CM_own_CL : MAt K CL "own" "MakeTree.own" s_MakeTree_own ["self", "make"] := ⟨_, _, F_CM_own, ⟨m_CM_own_CL, y_CM_own, k_CM_own⟩, B_CM_own⟩
  have F_CM_depth := fun_mk (st := s_MakeTree_depth) l_CM_depth c_CM_depth k_CM_depth
  have B_CM_depth : Binds K _ ["self", "make"] [] := F_CM_depth.binds (ps := ["self", "make"]) (fun _ _ _ _ _ _ us hl => match us, hl with | [_, _], _ => rfl)
  have M_CM_depth : MAt K CM "depth" "MakeTree.depth" s_MakeTree_depth ["self", "make"] := ⟨_, _, F_CM_depth, ⟨m_CM_depth, y_CM_depth, k_CM_depth⟩, B_CM_depth⟩
  have M_CM_depth_CL : MAt K CL "depth" "MakeTree.depth" s_MakeTree_depth ["self", "make"] := ⟨_, _, F_CM_depth, ⟨m_CM_depth_CL, y_CM_depth, k_CM_depth⟩, B_CM_depth⟩
  have F_CM_on := fun_mk (st := s_MakeTree_on) l_CM_on c_CM_on k_CM_on
  have B_CM_on : Binds K _ ["self", "make"] [] := F_CM_on.binds (ps := ["self", "make"]) (fun _ _ _ _ _ _ us hl => match us, hl with | [_, _], _ => rfl)
  have M_CM_on : MAt K CM "on" "MakeTree.on" s_MakeTree_on ["self", "make"] := ⟨_, _, F_CM_on, ⟨m_CM_on, y_CM_on, k_CM_on⟩, B_CM_on⟩
  have M_CM_on_CL : MAt K CL "on" "MakeTree.on" s_MakeTree_on ["self", "make"] := ⟨_, _, F_CM_on, ⟨m_CM_on_CL, y_CM_on, k_CM_on⟩, B_CM_on⟩
  have F_CM_grown_alike := fun_mk (st := s_MakeTree__grown_alike) l_CM_grown_alike c_CM_grown_alike k_CM_grown_alike
  have B_CM_grown_alike : Binds K _ ["self", "other"] [] := F_CM_grown_alike.binds (ps := ["self", "other"]) (fun _ _ _ _ _ _ us hl => match us, hl with | [_, _], _ => rfl)
  have M_CM_grown_alike : MAt K CM "_grown_alike" "MakeTree._grown_alike" s_MakeTree__grown_alike ["self", "other"] := ⟨_, _, F_CM_grown_alike, ⟨m_CM_grown_alike, y_CM_grown_alike, k_CM_grown_alike⟩, B_CM_grown_alike⟩
  have M_CM_grown_alike_CL : MAt K CL "_grown_alike" "MakeTree._grown_alike" s_MakeTree__grown_alike ["self", "other"] := ⟨_, _, F_CM_grown_alike, ⟨m_CM_grown_alike_CL, y_CM_grown_alike, k_CM_grown_alike⟩, B_CM_grown_alike⟩
  have F_CM_grow := fun_mk (st := s_MakeTree_grow) l_CM_grow c_CM_grow k_CM_grow
  have B_CM_grow : Binds K _ ["self", "make"] [] := F_CM_grow.binds (ps := ["self", "make"]) (fun _ _ _ _ _ _ us hl => match us, hl with | [_, _], _ => rfl)
  have M_CM_grow : MAt K CM "grow" "MakeTree.grow" s_MakeTree_grow ["self", "make"] := ⟨_, _, F_CM_grow, ⟨m_CM_grow, y_CM_grow, k_CM_grow⟩, B_CM_grow⟩
  have F_CM_init := fun_mk (st := s_MakeTree___init__) l_CM_init c_CM_init k_CM_init
  have B_CM_init : Binds K _ ["self"] [] := F_CM_init.binds (ps := ["self"]) (fun _ _ _ _ _ _ us hl => match us, hl with | [_], _ => rfl)
  have M_CM_init : MAt K CM "__init__" "MakeTree.__init__" s_MakeTree___init__ ["self"] := ⟨_, _, F_CM_init, ⟨m_CM_init, y_CM_init, k_CM_init⟩, B_CM_init⟩
  have F_CM_copied := fun_mk (st := s_MakeTree_copied) l_CM_copied c_CM_copied k_CM_copied
  have B_CM_copied : Binds K _ ["self"] [] := F_CM_copied.binds (ps := ["self"]) (fun _ _ _ _ _ _ us hl => match us, hl with | [_], _ => rfl)
  have M_CM_copied : MAt K CM "copied" "MakeTree.copied" s_MakeTree_copied ["self"] := ⟨_, _, F_CM_copied, ⟨m_CM_copied, y_CM_copied, k_CM_copied⟩, B_CM_copied⟩
  have F_CL_leaps_through := fun_mk (st := s_LeapTree__leaps_through) l_CL_leaps_through c_CL_leaps_through k_CL_leaps_through
  have B_CL_leaps_through : Binds K _ ["self", "own"] [] := F_CL_leaps_through.binds (ps := ["self", "own"]) (fun _ _ _ _ _ _ us hl => match us, hl with | [_, _], _ => rfl)
  have M_CL_leaps_through : MAt K CL "_leaps_through" "LeapTree._leaps_through" s_LeapTree__leaps_through ["self", "own"] := ⟨_, _, F_CL_leaps_through, ⟨m_CL_leaps_through, y_CL_leaps_through, k_CL_leaps_through⟩, B_CL_leaps_through⟩
  have F_CL_copied := fun_mk (st := s_LeapTree_copied) l_CL_copied c_CL_copied k_CL_copied
  have B_CL_copied : Binds K _ ["self"] [] := F_CL_copied.binds (ps := ["self"]) (fun _ _ _ _ _ _ us hl => match us, hl with | [_], _ => rfl)
  have M_CL_copied : MAt K CL "copied" "LeapTree.copied" s_LeapTree_copied ["self"] := ⟨_, _, F_CL_copied, ⟨m_CL_copied, y_CL_copied, k_CL_copied⟩, B_CL_copied⟩
  have S_CL_grow : SAt l.prog K CL "grow" "LeapTree.grow" s_LeapTree_grow ["self", "make"] f_CM_grow := ⟨f_CL_grow, cc_CL_grow, co_CL_grow, oc_CL_grow, od_CL_grow, dc_CL_grow, pm_CL_grow, an_CL_grow, ct_CL_grow, sl_CL_grow,
    { fn := ⟨oc_CL_grow, od_CL_grow, dc_CL_grow, pm_CL_grow, an_CL_grow, ct_CL_grow, sl_CL_grow, l_CL_grow⟩, cl := rfl, code := c_CL_grow, cod := ⟨ccl_CL_grow, cdd_CL_grow, vs_CL_grow, ccs_CL_grow, file_CL_grow, tf_CL_grow, dl_CL_grow, fv_CL_grow, fl_CL_grow⟩, cell := ⟨cv_CL_grow, cld_CL_grow, csl_CL_grow, zc_CL_grow⟩, isD := ⟨ic_CL, by simp [PySem.W.clsIn, x_CL]⟩, sub := mm_CL, sup := su_CL_grow, ty := ty_CL_grow, fg := fg_CL_grow, op := op, zs := zs, htop := htop,
      hm := by decide, hks := by rfl, hkc := by rfl, hself := by rfl, arg := ⟨_, rfl, rfl⟩ }, l_CL_grow, ⟨m_CL_grow, y_CL_grow, k_CL_grow⟩, .all fun us hl => match us, hl with | [_, _], _ => rfl⟩
  have S_CL_init : SAt l.prog K CL "__init__" "LeapTree.__init__" s_LeapTree___init__ ["self"] f_CM_init := ⟨f_CL_init, cc_CL_init, co_CL_init, oc_CL_init, od_CL_init, dc_CL_init, pm_CL_init, an_CL_init, ct_CL_init, sl_CL_init,
    { fn := ⟨oc_CL_init, od_CL_init, dc_CL_init, pm_CL_init, an_CL_init, ct_CL_init, sl_CL_init, l_CL_init⟩, cl := rfl, code := c_CL_init, cod := ⟨ccl_CL_init, cdd_CL_init, vs_CL_init, ccs_CL_init, file_CL_init, tf_CL_init, dl_CL_init, fv_CL_init, fl_CL_init⟩, cell := ⟨cv_CL_init, cld_CL_init, csl_CL_init, zc_CL_init⟩, isD := ⟨ic_CL, by simp [PySem.W.clsIn, x_CL]⟩, sub := mm_CL, sup := su_CL_init, ty := ty_CL_init, fg := fg_CL_init, op := op, zs := zs, htop := htop,
      hm := by decide, hks := by rfl, hkc := by rfl, hself := by rfl, arg := ⟨_, rfl, rfl⟩ }, l_CL_init, ⟨m_CL_init, y_CL_init, k_CL_init⟩, .all fun us hl => match us, hl with | [_], _ => rfl⟩
  have ET : Gc.ErrTxt l.prog K CT fT "TooMany.__init__" _ :=
    { cls := ⟨nmT, qT, NT, bsT, _, snT, subT, abT, colT, ddT, m0T, m1T, m2T, m3T, m5T, xT, by rfl⟩, sa := saT, ga := gaT, gg := ggT, noN := nnT, iC := iiT, tC := ttT, kC := kkT, exC := eeT, veC := veT, tyC := tyT, hdC := hdT, sub := mmT, sup := suT, op := op, zs := zs, htop := htop,
      fn := ⟨ocT, odT, dcT, pmT, anT, cdaT, ccT, ctT, slT, kdT, p1T, p2T, p3T, p4T, p5T, p6T, q1T, q2T, q3T, q4T, r1T, r2T, cclT, clT, cddT, cldT, vsT, ccsT, cslT, fileT, tfT, llT, ciT, dlT, fvT, flT, zcT, plT⟩ }
  refine ⟨PySem.W.fnOf "law" "law" (defArgs s_law) (defBody s_law) (defScope s_law) .none kV10 dc10 pm10 an10 cd10 ct10, fun s v => .of_eq rfl, fun base _ _ => ?_⟩
  have T : Txt K mg := ⟨PySem.W.mg_none_of X G z_len, PySem.W.mg_none_of X G z_max, PySem.W.mg_none_of X G z_min, PySem.W.mg_none_of X G z_range, PySem.W.mg_none_of X G z_repr, PySem.W.mg_none_of X G z_zip, PySem.W.mg_none_of X G z_isinstance, PySem.W.mg_none_of X G z_int, PySem.W.mg_none_of X G z_bool, PySem.W.mg_none_of X G z_list, ⟨t_MOST_MAKES, PySem.W.mg_of X G i_MOST_MAKES⟩⟩
  have R : ErrT l.prog K mg CT fT := ⟨ET, PySem.W.mg_of X G aT, exm_self iT tyT eeT ssT⟩
  have c_cell := ok_cell (P := l.prog) (w := w) (base := base) T d__law_cell
  have c_box := ok_box (P := l.prog) (w := w) (base := base) T d__law_box
  have c_take := ok_take (P := l.prog) (w := w) (base := base) T d__law_take
  have c_pick := ok_pick T c_take d__law_pick
  have c_line := ok_lline (P := l.prog) (w := w) (base := base) T d__law_line
  have c_whI := ok_whI (P := l.prog) (w := w) (base := base) T d_is_whole
  have TC_CM : TreeC K CM := ⟨cl_CM, no_CM__owns, no_CM__depths, no_CM__on, no_CM__leaps⟩
  have many_CM := ok_many (P := l.prog) (w := w) (base := base) T TC_CM M_CM_many
  have need_CM := ok_need T TC_CM c_whI many_CM M_CM_need_make
  have own_CM := ok_own T TC_CM need_CM M_CM_own
  have depth_CM := ok_depth T TC_CM need_CM M_CM_depth
  have on_CM := ok_on T TC_CM need_CM M_CM_on
  have TC_CL : TreeC K CL := ⟨cl_CL, no_CL__owns, no_CL__depths, no_CL__on, no_CL__leaps⟩
  have many_CL := ok_many (P := l.prog) (w := w) (base := base) T TC_CL M_CM_many_CL
  have need_CL := ok_need T TC_CL c_whI many_CL M_CM_need_make_CL
  have own_CL := ok_own T TC_CL need_CL M_CM_own_CL
  have depth_CL := ok_depth T TC_CL need_CL M_CM_depth_CL
  have on_CL := ok_on T TC_CL need_CL M_CM_on_CL
  have grow_M := ok_grow T TC_CM many_CM need_CM M_CM_grow
  have full_M := ok_full T R TC_CM many_CM need_CM M_CM_grow
  have thr := ok_through (P := l.prog) (w := w) (base := base) T TC_CL M_CL_leaps_through
  have grow_L := okL_grow T TC_CL many_CL need_CL thr F_CM_grow B_CM_grow S_CL_grow
  have full_L := okL_full T R TC_CL many_CL need_CL thr F_CM_grow B_CM_grow S_CL_grow
  have init_M := fn_init (P := l.prog) (w := w) (base := base) T TC_CM F_CM_init
  obtain ⟨fi, fdi, me, bi, Fi⟩ := okL_init (P := l.prog) (w := w) (base := base) T TC_CL F_CM_init B_CM_init S_CL_init
  have kinds : Kinds l.prog w K mg base CM CL :=
    { cM := PySem.W.mg_of X G a_CM, cL := PySem.W.mg_of X G a_CL, iM := ⟨_, _, ⟨mk_CM, m_CM_init, y_CM_init, kp_CM⟩, B_CM_init, init_M⟩, iL := ⟨fi, fdi, ⟨mk_CL, me.at_, me.fn, kp_CL⟩, bi, Fi⟩, gM := grow_M, gL := grow_L }
  have rdM : Rd CM (fun N H t ow => Tw N H t CM ow) := ⟨fun _ _ _ _ z => z.tr, fun N H t ow z => tw_live z, fun N H H' t ow z s => z.kp fun c u _ y => s c u y⟩
  have rdL : Rd CL (Lw CL) := ⟨fun _ _ _ _ z => z.tr, fun _ _ _ _ z => z.cut, fun N H H' t ow z s => lw_same z s⟩
  have gM4 : Met l.prog w K mg base 4 CM "grow" (spGrowR fun N H t ow => Tw N H t CM ow) [] := by
    obtain ⟨f, fd, ps, ds, a1, a2, a3, a4, a5⟩ := grow_M.ex
    exact ⟨f, fd, ps, ds, a1, a2, a3.mono (by decide), a4, a5⟩
  have alike_M := ok_alike TC_CM rdM gM4 M_CM_grown_alike
  have alike_L := ok_alike TC_CL rdL grow_L M_CM_grown_alike_CL
  have cp_M := ok_copiedM TC_CM (PySem.W.mg_of X G a_CM) ⟨mk_CM, m_CM_init, y_CM_init, kp_CM⟩ B_CM_init init_M alike_M M_CM_copied
  have cp_L := ok_copiedL TC_CL (PySem.W.mg_of X G a_CL) ⟨mk_CL, me.at_, me.fn, kp_CL⟩ bi Fi alike_L M_CL_copied
  have asks : Asks l.prog w K mg base CM CL CT := ⟨fun C hC => by
    rcases hC with rfl | rfl
    · exact ⟨many_CM, own_CM, depth_CM, on_CM, full_M⟩
    · exact ⟨many_CL, own_CL, depth_CL, on_CL, full_L⟩, cp_M, cp_L⟩
  have isi : IsI K CM CL := fun C hC => by
    rcases hC with rfl | rfl
    · exact ⟨fun H a dx fs e => .base (.ins e cl_CM ia_CM h2T h3T im_CM), false, kit_no ne_ icL ytL kML⟩
    · exact ⟨fun H a dx fs e => .base (.ins e cl_CL ia_CL h2T h3T im_CL), true, kit_self⟩
  have c_tree := ok_tree T kinds d__law_tree
  have c_mr := ok_mr T asks c_line d__law_make_right
  have c_grown := ok_grown T R asks kinds c_pick d__law_grown
  have c_all := ok_all T asks c_mr d__law_all_right
  exact ok_law T asks kinds isi (fun e => by rw [e] at ne_; simp at ne_) F_law c_cell c_box c_take c_tree c_grown c_mr c_all
end K6
open PySem PySem.W PyProof.Rows
set_option maxRecDepth 100000 in
set_option maxHeartbeats 0 in
theorem PySem.Challenge.cw_makeskept_k06_trees_grown_holds : PySem.Challenge.rw_makeskept_k06_trees_grown.Holds := by
  w_on; o_law; k_head; (case hw => w_witness2)
  k_fill
  refine Gd.walkG (l := PySem.Challenge.rw_makeskept_k06_trees_grown) (n := 63) (k := 7) (x := "_law_script") (CX := fun _ => L2.CX0) (sp := fun w => K6.spLaw _) rfl (by decide) rfl ⟨rfl, by decide, by decide⟩ (fun w h Y => PySem.W.kIn_of Y) ?F (fun _ _ a ns hl _ hS => ⟨a, ns, rfl, hS, hl, fun _ => rfl⟩) (fun _ _ _ _ _ h => h)
  case F =>
    intro w mg fa h KX G hmg
    refine' K6.all_mk KX G hmg ?a0 ?l0 ?c0 ?k0 ?a1 ?l1 ?c1 ?k1 ?a2 ?l2 ?c2 ?k2 ?a3 ?l3 ?c3 ?k3 ?a4 ?l4 ?c4 ?k4 ?a5 ?l5 ?c5 ?k5 ?a6 ?l6 ?c6 ?k6 ?a7 ?l7 ?c7 ?k7 ?a8 ?l8 ?c8 ?k8 ?a9 ?l9 ?c9 ?k9 ?a10 ?l10 ?c10 ?k10 ?z_len ?z_max ?z_min ?z_range ?z_repr ?z_zip ?z_isinstance ?z_int ?z_bool ?z_list ?i_MOST_MAKES ?a_CM ?pg_CM ?hd_CM ?po_CM ?sa_CM ?no_CM__owns ?no_CM__depths ?no_CM__on ?no_CM__leaps ?mk_CM ?kp_CM ?a_CL ?pg_CL ?hd_CL ?po_CL ?sa_CL ?no_CL__owns ?no_CL__depths ?no_CL__on ?no_CL__leaps ?mk_CL ?kp_CL ?m_CM_many ?l_CM_many ?c_CM_many ?k_CM_many ?y_CM_many ?m_CM_many_CL ?m_CM_need_make ?l_CM_need_make ?c_CM_need_make ?k_CM_need_make ?y_CM_need_make ?m_CM_need_make_CL ?m_CM_own ?l_CM_own ?c_CM_own ?k_CM_own ?y_CM_own ?m_CM_own_CL ?m_CM_depth ?l_CM_depth ?c_CM_depth ?k_CM_depth ?y_CM_depth ?m_CM_depth_CL ?m_CM_on ?l_CM_on ?c_CM_on ?k_CM_on ?y_CM_on ?m_CM_on_CL ?m_CM_grown_alike ?l_CM_grown_alike ?c_CM_grown_alike ?k_CM_grown_alike ?y_CM_grown_alike ?m_CM_grown_alike_CL ?m_CM_grow ?l_CM_grow ?c_CM_grow ?k_CM_grow ?y_CM_grow ?m_CM_init ?l_CM_init ?c_CM_init ?k_CM_init ?y_CM_init ?m_CM_copied ?l_CM_copied ?c_CM_copied ?k_CM_copied ?y_CM_copied ?m_CL_leaps_through ?l_CL_leaps_through ?c_CL_leaps_through ?k_CL_leaps_through ?y_CL_leaps_through ?m_CL_copied ?l_CL_copied ?c_CL_copied ?k_CL_copied ?y_CL_copied ?op ?zs ?htop ?x_CL ?mm_CL ?m_CL_grow ?l_CL_grow ?c_CL_grow ?y_CL_grow ?k_CL_grow ?dl_CL_grow ?fv_CL_grow ?fl_CL_grow ?zc_CL_grow ?su_CL_grow ?ty_CL_grow ?fg_CL_grow ?m_CL_init ?l_CL_init ?c_CL_init ?y_CL_init ?k_CL_init ?dl_CL_init ?fv_CL_init ?fl_CL_init ?zc_CL_init ?su_CL_init ?ty_CL_init ?fg_CL_init ?aE ?iE ?yE ?eE ?aT ?xT ?saT ?gaT ?ggT ?nnT ?iiT ?ttT ?kkT ?eeT ?veT ?tyT ?hdT ?mmT ?suT ?llT ?ciT ?dlT ?fvT ?flT ?zcT ?plT ?h1T ?h2T ?h3T ?h4T ?smT ?ia_CM ?im_CM ?ia_CL ?im_CL ?kML ?ne_ ?ssT ?icL ?ytL ?iT
    (case a0 => k_is)
    (case l0 => k_is)
    (case c0 => k_is)
    (case k0 => k_is)
    (case a1 => k_is)
    (case l1 => k_is)
    (case c1 => k_is)
    (case k1 => k_is)
    (case a2 => k_is)
    (case l2 => k_is)
    (case c2 => k_is)
    (case k2 => k_is)
    (case a3 => k_is)
    (case l3 => k_is)
    (case c3 => k_is)
    (case k3 => k_is)
    (case a4 => k_is)
    (case l4 => k_is)
    (case c4 => k_is)
    (case k4 => k_is)
    (case a5 => k_is)
    (case l5 => k_is)
    (case c5 => k_is)
    (case k5 => k_is)
    (case a6 => k_is)
    (case l6 => k_is)
    (case c6 => k_is)
    (case k6 => k_is)
    (case a7 => k_is)
    (case l7 => k_is)
    (case c7 => k_is)
    (case k7 => k_is)
    (case a8 => k_is)
    (case l8 => k_is)
    (case c8 => k_is)
    (case k8 => k_is)
    (case a9 => k_is)
    (case l9 => k_is)
    (case c9 => k_is)
    (case k9 => k_is)
    (case a10 => k_is)
    (case l10 => k_is)
    (case c10 => k_is)
    (case k10 => k_is)
    (case z_len => k_is)
    (case z_max => k_is)
    (case z_min => k_is)
    (case z_range => k_is)
    (case z_repr => k_is)
    (case z_zip => k_is)
    (case z_isinstance => k_is)
    (case z_int => k_is)
    (case z_bool => k_is)
    (case z_list => k_is)
    (case i_MOST_MAKES => k_is)
    (case a_CM => k_is)
    (case pg_CM => k_is)
    (case hd_CM => k_is)
    (case po_CM => k_is)
    (case sa_CM => k_is)
    (case no_CM__owns => k_is)
    (case no_CM__depths => k_is)
    (case no_CM__on => k_is)
    (case no_CM__leaps => k_is)
    (case mk_CM => k_is)
    (case kp_CM => k_is)
    (case a_CL => k_is)
    (case pg_CL => k_is)
    (case hd_CL => k_is)
    (case po_CL => k_is)
    (case sa_CL => k_is)
    (case no_CL__owns => k_is)
    (case no_CL__depths => k_is)
    (case no_CL__on => k_is)
    (case no_CL__leaps => k_is)
    (case mk_CL => k_is)
    (case kp_CL => k_is)
    (case m_CM_many => k_is)
    (case l_CM_many => k_is)
    (case c_CM_many => k_is)
    (case k_CM_many => k_is)
    (case y_CM_many => k_is)
    (case m_CM_many_CL => k_is)
    (case m_CM_need_make => k_is)
    (case l_CM_need_make => k_is)
    (case c_CM_need_make => k_is)
    (case k_CM_need_make => k_is)
    (case y_CM_need_make => k_is)
    (case m_CM_need_make_CL => k_is)
    (case m_CM_own => k_is)
    (case l_CM_own => k_is)
    (case c_CM_own => k_is)
    (case k_CM_own => k_is)
    (case y_CM_own => k_is)
    (case m_CM_own_CL => k_is)
    (case m_CM_depth => k_is)
    (case l_CM_depth => k_is)
    (case c_CM_depth => k_is)
    (case k_CM_depth => k_is)
    (case y_CM_depth => k_is)
    (case m_CM_depth_CL => k_is)
    (case m_CM_on => k_is)
    (case l_CM_on => k_is)
    (case c_CM_on => k_is)
    (case k_CM_on => k_is)
    (case y_CM_on => k_is)
    (case m_CM_on_CL => k_is)
    (case m_CM_grown_alike => k_is)
    (case l_CM_grown_alike => k_is)
    (case c_CM_grown_alike => k_is)
    (case k_CM_grown_alike => k_is)
    (case y_CM_grown_alike => k_is)
    (case m_CM_grown_alike_CL => k_is)
    (case m_CM_grow => k_is)
    (case l_CM_grow => k_is)
    (case c_CM_grow => k_is)
    (case k_CM_grow => k_is)
    (case y_CM_grow => k_is)
    (case m_CM_init => k_is)
    (case l_CM_init => k_is)
    (case c_CM_init => k_is)
    (case k_CM_init => k_is)
    (case y_CM_init => k_is)
    (case m_CM_copied => k_is)
    (case l_CM_copied => k_is)
    (case c_CM_copied => k_is)
    (case k_CM_copied => k_is)
    (case y_CM_copied => k_is)
    (case m_CL_leaps_through => k_is)
    (case l_CL_leaps_through => k_is)
    (case c_CL_leaps_through => k_is)
    (case k_CL_leaps_through => k_is)
    (case y_CL_leaps_through => k_is)
    (case m_CL_copied => k_is)
    (case l_CL_copied => k_is)
    (case c_CL_copied => k_is)
    (case k_CL_copied => k_is)
    (case y_CL_copied => k_is)
    (case op => k_is)
    (case zs => k_is)
    (case htop => first | rfl | decide +kernel)
    (case x_CL => k_is)
    (case mm_CL => k_is)
    (case m_CL_grow => k_is)
    (case l_CL_grow => k_is)
    (case c_CL_grow => k_is)
    (case y_CL_grow => k_is)
    (case k_CL_grow => k_is)
    (case dl_CL_grow => k_is)
    (case fv_CL_grow => rfl)
    (case fl_CL_grow => first | rfl | decide +kernel)
    (case zc_CL_grow => k_is)
    (case su_CL_grow => ks_is)
    (case ty_CL_grow => k_is)
    (case fg_CL_grow => k_is)
    (case m_CL_init => k_is)
    (case l_CL_init => k_is)
    (case c_CL_init => k_is)
    (case y_CL_init => k_is)
    (case k_CL_init => k_is)
    (case dl_CL_init => k_is)
    (case fv_CL_init => rfl)
    (case fl_CL_init => first | rfl | decide +kernel)
    (case zc_CL_init => k_is)
    (case su_CL_init => ks_is)
    (case ty_CL_init => k_is)
    (case fg_CL_init => k_is)
    (case aE => k_is)
    (case iE => k_is)
    (case yE => k_is)
    (case eE => k_is)
    (case aT => k_is)
    (case xT => k_is)
    (case saT => k_is)
    (case gaT => k_is)
    (case ggT => k_is)
    (case nnT => k_is)
    (case iiT => k_is)
    (case ttT => k_is)
    (case kkT => k_is)
    (case eeT => k_is)
    (case veT => k_is)
    (case tyT => k_is)
    (case hdT => k_is)
    (case mmT => k_is)
    (case suT => ks_is)
    (case llT => k_is)
    (case ciT => k_is)
    (case dlT => k_is)
    (case fvT => rfl)
    (case flT => first | rfl | decide +kernel)
    (case zcT => k_is)
    (case plT => rfl)
    (case h1T => k_is)
    (case h2T => k_is)
    (case h3T => k_is)
    (case h4T => k_is)
    (case smT => k_is)
    (case ia_CM => k_is)
    (case im_CM => k_is)
    (case ia_CL => k_is)
    (case im_CL => k_is)
    (case kML => k_is)
    (case ne_ => first | rfl | decide +kernel)
    (case ssT => k_is)
    (case icL => k_is)
    (case ytL => k_is)
    (case iT => k_is)

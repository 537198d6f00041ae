import PyProof.Rows.All
import Wide.All
import OpenK.AllK
import Wide.FinOn
import HandS.ForMost
import HandS.IsInst
import HandS.TupLe
import PyProof.ReprLen
import PySem.Challenge.RW_makeskept_k02_changes
set_option Elab.async false
set_option linter.all false
set_option maxRecDepth 100000
set_option maxHeartbeats 4000000
/-! A promise of a def that is kept where nothing is being shown (no repr under way), and repr of data under it. -/
namespace Gd
open PySem PySem.Spec PyProof.Rows L2

/-- as FnOk, asked only where no repr is under way -/
structure FnG (P : Program) (w : World) (K : PySem.W.Frag) (mg : Str → Option Value) (base : Heap)
    (CX : CXT) (k : Nat) (f : Addr) (fd : FuncData) (ps : List Str) (sp : Sp) : Prop where
  arity : ∀ vs H Q E, sp vs H Q E → vs.length = ps.length
  go : ∀ (A : Around) (outer : List Env) (s : Shared) (H : Hp) (args : Args) (us : List Value) (vs : List V)
    (Q : VK) (E : XK), A.guards = some [] → Room k A → Env0 P w K mg base A outer s H →
    BindsTo s fd args (ps.zip us) → Vals vs us → sp vs H Q E →
    codeAny (model P w) A (.call (.ref f) args) (CR CX outer P w H s Q E) s

section
variable {P : Program} {w : World} {K : PySem.W.Frag} {mg : Str → Option Value} {base : Heap}
theorem FnG.low {CX : CXT} {j k : Nat} {f : Addr} {fd : FuncData} {ps : List Str} {sp : Sp}
    (F : FnG P w K mg base CX j f fd ps sp) (h : j ≤ k) : FnG P w K mg base CX k f fd ps sp :=
  ⟨F.arity, fun A o s H ar us vs Q E g r => F.go A o s H ar us vs Q E g (r.mono h)⟩
theorem FnG.ofOk {CX : CXT} {k : Nat} {f : Addr} {fd : FuncData} {ps : List Str} {sp : Sp}
    (F : FnOk P w K mg base CX k f fd ps sp) : FnG P w K mg base CX k f fd ps sp :=
  ⟨F.len, fun A o s H ar us vs Q E _ r => F.run A o s H ar us vs Q E r⟩

/-- the rule for a def, told that no repr is under way -/
theorem fnG_of {CX : CXT} {k : Nat} {f : Addr} {name qual : Str} {params : Arguments} {body : List Stmt}
    {scope : Scope} {dV kV doc pm cdv ct oc : Value} {an od : Option Addr} {osl : Array (Option Value)}
    {N ps : List Str} {sp : Sp}
    (lk : K.lookup f = some ⟨oc, od, .func (PySem.W.fnOf name qual params body scope dV kV doc pm an cdv ct), osl⟩)
    (cin : PySem.W.codeIn K cdv qual = true) (S : FnScope N ps scope)
    (ar : ∀ vs H Q E, sp vs H Q E → vs.length = ps.length)
    (bd : ∀ (A : Around) (outer : List Env) (s : Shared) (H : Hp) (vs : List V) (Q : VK) (E : XK),
      A.guards = some [] → Room k (A.deeper (envOfC qual scope s.heap.objs.size f cdv)) → sp vs H Q E →
      ∃ t, PSs (cxOf CX P w K mg base N qual scope f cdv A outer s H E) body t ∧
        t { nx := fun _ H' => Q .non H', rt := Q } (start N vs) H) :
    FnG P w K mg base CX (k + 1) f (PySem.W.fnOf name qual params body scope dV kV doc pm an cdv ct) ps sp := by
  constructor
  · exact ar
  intro A outer s H args us vs Q E hG room env bind rel prem
  have long := ar _ _ _ _ prem
  have kin : K.In s.heap := env.mod.kin.keeps fun b o z => (env.bs b o z).1
  have nl : s.heap.NoLimit := env.mod.nolimit.keeps fun b o z => (env.bs b o z).1
  have kinds : ∀ y ∈ ps.zip us, scope.names.lookup y.1 = some .local ∨
      (scope.names.lookup y.1 = some .cell ∧
        ((cellsFrom (s.heap.objs.size + 1) scope.names []).lookup y.1).isSome = true) := by
    rintro ⟨n, v⟩ hy
    cases S.par n (List.of_mem_zip hy).1 with
    | inl q => exact .inl q
    | inr q => exact .inr ⟨q, PySem.W.cellsFrom_some _ _ _ (.inl q)⟩
  apply codeAny_call_function room.depth (kin _ _ lk) rfl S.co S.gen rfl (PySem.W.codeRec_of kin cin)
  apply bind
  apply wpAny_newFunctionEnv_cells S.kind kinds
  intro en hen s1 x
  subst hen
  refine ⟨nl.keeps x.toInCall.keep, ?_⟩
  apply codeAny_func
  obtain ⟨t, der, rd⟩ := bd A outer s H vs Q E hG (room.deeper _) prem
  have J := inv_start (CX := CX) (E := E) (mg := mg) S room.hd env long rel x
  apply wpAny_mono (der.run [] s1 (start N vs) H _ J rd)
  · intro fl s' hs
    cases fl with
    | ret u =>
      obtain ⟨v, _, H', J', rv, q⟩ := hs
      exact ⟨v, H', J'.os, J'.bare, J'.base, J'.hok, rv, q⟩
    | next =>
      obtain ⟨_, H', J', q⟩ := hs
      exact ⟨.non, H', J'.os, J'.bare, J'.base, J'.hok, rfl, q⟩
    | brk =>
      obtain ⟨_, _, _, q⟩ := hs
      exact q.elim
    | cont =>
      obtain ⟨_, _, _, q⟩ := hs
      exact q.elim
  · intro e s' hs
    exact hs
theorem okG {x qual : Str} {st : Stmt} {f : Addr} {fd : FuncData} {N ps : List Str} {k : Nat} {sp : Sp}
    (F : Fun K x qual st f fd) (S : FnScope N ps (defScope st))
    (ar : ∀ vs H Q E, sp vs H Q E → vs.length = ps.length)
    (bd : ∀ (cdv : Value) (A : Around) (outer : List Env) (s : Shared) (H : Hp) (vs : List V) (Q : VK) (E : XK),
      A.guards = some [] → Room k (A.deeper (envOfC qual (defScope st) s.heap.objs.size f cdv)) → sp vs H Q E →
      ∃ t, PSs (cxOf CX0 P w K mg base N qual (defScope st) f cdv A outer s H E).nox (defBody st) t ∧
        t { nx := fun _ H' => Q .non H', rt := Q } (start N vs) H) :
    FnG P w K mg base CX0 (k + 1) f fd ps sp := by
  obtain ⟨oc, od, kV, doc, pm, an, cdv, ct, osl, rfl, lk, cin⟩ := F.ex
  apply fnG_of lk cin S ar
  intro A outer s H vs Q E hG room prem
  obtain ⟨t, der, rd⟩ := bd cdv A outer s H vs Q E hG room prem
  exact ⟨t, der.nox, rd⟩
end

section
variable {X : Cx} {CX : CXT} {k : Nat} {f : Addr} {fd : FuncData} {ps : List Str} {sp : Sp} {dvs : List V}
  {ds : List Value} {E : XK} {x : Str} {p pos : Pos} {e : Expr} {es : List Expr} {t : TA}
theorem enterG {pins : List (Addr × Obj)} {σ : L2.St} {H : Hp} {s : Shared} {Q : VK} {us : List Value} {vs : List V}
    (F : FnG X.prog X.w X.K X.mg X.base CX k f fd ps sp) (hG : X.A.guards = some []) (hr : Room k X.A)
    (hb : Binds X.K fd ps ds) (hd : Vals dvs ds) (hx : Passes CX X E) (J : Inv X pins σ H s) (rel : Vals vs us)
    (prem : sp (vs ++ dvs) H Q E) :
    wpAny (model X.prog X.w) X.A (call (.ref f) us) (EP X pins σ Q) X.xe s := by
  have rel2 : Vals (vs ++ dvs) (us ++ ds) := rel.append hd
  have long : (us ++ ds).length = ps.length := rel2.length ▸ F.arity _ _ _ _ prem
  apply wpAny_call
  apply codeAny_mono (F.go X.A X.stack s H ⟨us, []⟩ (us ++ ds) (vs ++ dvs) Q E hG hr J.env0 (hb s us J.kIn long)
    rel2 prem)
  intro r s' hq
  match r, hq with
  | .error _, hq => exact hx pins σ H s _ s' J hq
  | .ok (.ret _), hq => exact J.after hq
  | .ok .next, hq => exact hq.elim
  | .ok .brk, hq => exact hq.elim
  | .ok .cont, hq => exact hq.elim
/-- f(e, ..) of a def that keeps its promise where no repr is under way -/
theorem pe_callG (F : FnG X.prog X.w X.K X.mg X.base CX k f fd ps sp) (hG : X.A.guards = some []) (hr : Room k X.A)
    (hg : Gl X x) (hm : X.mg x = some (.ref f)) (hk : PySem.W.keepIn X.K (.ref f) = true) (hb : Binds X.K fd ps ds)
    (hd : Vals dvs ds) (hx : Passes CX X E) (ha : PA X (e :: es) t)
    (hdb : (x == ("__debug__" : Str)) = false := by decide)
    (he : starEach (e :: es) X.env = (false, eval e X.env) :: starEach es X.env := by rfl)
    (hpl : (backTo pos (starEach es X.env)).any (·.1) = false := by rfl) :
    PE X (.Call (.Name x p) (e :: es) [] pos) (tCall sp dvs E t) := by
  constructor
  intro pins s σ H Q J prem
  have arg := ha.run pos pins s σ H _ J prem
  apply wpAny_Call_Name_kw
  apply ld_glob J hg hm (hd := hdb)
  apply PySem.W.callWith_K (h₀ := X.base) J.ok.mod.kin hk (he := he) (hplain := hpl)
  apply thn arg
  rintro us s1 ⟨vs, H1, J1, rel, q⟩
  exact ⟨J1.kIn, enterG F hG hr hb hd hx J1 rel q⟩
end
end Gd
namespace Gd
open PySem PySem.Spec PyProof.Rows L2
section
variable {P : Program} {w : World} {K : PySem.W.Frag} {mg mb : Str → Option Value} {CX : CXT} {k : Nat} {fa a : Addr}
  {fd : FuncData} {x : Str} {sp : Sp} {s₁ : Shared} {vs : List Value} {ns : List Int}
/-- the law's call from one abstract heap that tracks at most the script -/
theorem callOne (kin : K.In s₁.heap) (gl : s₁.heap.Ns mainGlobals mg) (bl : s₁.heap.Ns builtinsNs mb)
    (bb : ∀ x : Str, x ≠ "__name__" → mb x = bootBuiltins x) (nl : s₁.heap.NoLimit) (gn : s₁.gens = #[])
    (at_ : s₁.heap.get? a = some { cls := .type "list", data := .seq vs.toArray }) (room : Room k callerA)
    (F : ∀ base : Heap, K.In base → base.Ns mainGlobals mg → FnG P w K mg base CX k fa fd [x] sp)
    (bind : ∀ (s : Shared) (u : Value), BindsTo s fd ⟨[u], []⟩ [(x, u)])
    (H : Hp) (only : Only H) (prem : sp [.ref a] H (fun v _ => v = .bl true) fun _ _ _ => False)
    (noX : ∀ e s', CX [] H s₁ (fun _ _ _ => False) e s' → False)
    (hok : HOk P w H s₁.heap) (here : ∀ b, H b ≠ none → b = a) (out : H a ≠ none → K.lookup a = none) :
    codeAny (model P w) callerA (.call (.ref fa) ⟨[.ref a], []⟩)
      (fun r s' => r = .ok (.ret (.bool true)) ∧ OldK s₁.heap s'.heap ∧ s'.os = s₁.os ∧ AllBare s'.gens) s₁ := by
  have free : ∀ {b : Addr} {o : Obj} {es : Array DictEntry} {ep : Nat},
      s₁.heap.get? b = some o → o.data = .dict es ep → H b = none := by
    intro b o es ep z dd
    refine Classical.byContradiction fun q => ?_
    have hb := here b q
    rw [hb, at_] at z
    injection z with z
    rw [← z] at dd
    injection dd
  have nsOf : ∀ {b : Addr} {m : Str → Option Value}, s₁.heap.Ns b m → (hidT s₁.heap H).Ns b m := by
    rintro b m ⟨o, es, ep, z, dd, r⟩
    exact ⟨o, es, ep, hidT_get z (free z dd), dd, r⟩
  have kinB : K.In (hidT s₁.heap H) := by
    intro b o z
    refine hidT_get (kin b o z) (Classical.byContradiction fun q => ?_)
    have hb := here b q
    rw [hb] at z q
    rw [out q] at z
    injection z
  have modB : Mod K mg (hidT s₁.heap H) := by
    obtain ⟨mc, l1, l2⟩ := nl
    exact ⟨kinB, nsOf gl, ⟨mb, nsOf bl, bb⟩, ⟨mc, nsOf l1, l2⟩⟩
  have env : Env0 P w K mg (hidT s₁.heap H) callerA [] s₁ H := by
    refine ⟨rfl, modB, fun b o z => of_hidT z, Nat.le_of_eq (hidT_size _ _), trivial, ?_, hok, .of_eq gn⟩
    intro b hb
    exact absurd (show b ∈ ([] : List Addr) from hb) List.not_mem_nil
  have ran := (F _ kinB (nsOf gl)).go callerA [] s₁ H ⟨[.ref a], []⟩ [.ref a] [.ref a] _ _ rfl room env
    (bind s₁ (.ref a)) (.cons rfl .nil) prem
  apply codeAny_mono ran
  intro r s' q
  match r, q with
  | .error _, q => exact (noX _ _ q).elim
  | .ok .next, q => exact q.elim
  | .ok .brk, q => exact q.elim
  | .ok .cont, q => exact q.elim
  | .ok (.ret u), q =>
    obtain ⟨v, H', os, bare, un, hok', rv, ev⟩ := q
    have ev' : v = .bl true := ev
    subst ev'
    have hu : u = Value.bool true := rv
    subst hu
    refine ⟨rfl, ?_, os, bare⟩
    apply OldK.of_keep
    intro b o z
    have nob : b ∉ ([] : List Addr) := List.not_mem_nil
    cases q : H b with
    | none => exact un.keep b o z q nob nob
    | some u =>
      cases only b with
      | inl z0 =>
        rw [q] at z0
        injection z0
      | inr z0 =>
        obtain ⟨ob, xs, z1⟩ := z0
        have y1 := (hok b _ z1).1
        have y2 := (hok' b _ (un.frzs b ob _ z1)).1
        rw [z] at y1
        injection y1 with y1
        rw [y1]
        exact y2
theorem callG (kin : K.In s₁.heap) (gl : s₁.heap.Ns mainGlobals mg) (bl : s₁.heap.Ns builtinsNs mb)
    (bb : ∀ x : Str, x ≠ "__name__" → mb x = bootBuiltins x) (nl : s₁.heap.NoLimit) (gn : s₁.gens = #[])
    (at_ : s₁.heap.get? a = some { cls := .type "list", data := .seq vs.toArray }) (hin : IntsAre vs ns)
    (short : ns.length ≤ sizeLine) (room : Room k callerA)
    (F : ∀ base : Heap, K.In base → base.Ns mainGlobals mg → FnG P w K mg base CX k fa fd [x] sp)
    (bind : ∀ (s : Shared) (u : Value), BindsTo s fd ⟨[u], []⟩ [(x, u)])
    (prem : ∀ H : Hp, Only H → SqL K H a (ns.map V.int) → sp [.ref a] H (fun v _ => v = .bl true) fun _ _ _ => False)
    (noX : ∀ H e s', CX [] H s₁ (fun _ _ _ => False) e s' → False) :
    codeAny (model P w) callerA (.call (.ref fa) ⟨[.ref a], []⟩)
      (fun r s' => r = .ok (.ret (.bool true)) ∧ OldK s₁.heap s'.heap ∧ s'.os = s₁.os ∧ AllBare s'.gens) s₁ := by
  have rv := vals_ints hin
  have lens := hin.length
  cases hk : K.lookup a with
  | some o =>
    have z := kin a o hk
    rw [at_] at z
    injection z with z
    subst z
    have only : Only (fun _ => none) := fun _ => .inl rfl
    refine callOne kin gl bl bb nl gn at_ room F bind (fun _ => none) only (prem _ only ?_) (noX _)
      (fun b u z => ?_) (fun b z => absurd rfl z) fun z => absurd rfl z
    · refine .inr ⟨_, vs.toArray, _, hk, rfl, rfl, rfl, ?_, ?_⟩
      · rw [List.size_toArray, lens]
        exact short
      · simpa using rv
    · have z' : (none : Option HO) = some u := z
      injection z'
  | none =>
    let T : HO := .frz { cls := .type "list", data := .seq vs.toArray } (.lst (ns.map V.int))
    have only : Only (fun b => if b = a then some T else none) := fun b => by
      by_cases hb : b = a
      · exact .inr ⟨_, _, if_pos hb⟩
      · exact .inl (if_neg hb)
    refine callOne kin gl bl bb nl gn at_ room F bind (fun b => if b = a then some T else none) only
      (prem _ only (.inl (.inr ⟨{ cls := .type "list", data := .seq vs.toArray }, if_pos rfl⟩))) (noX _)
      (fun b u z => ?_) (fun b z => ?_) fun _ => hk
    · by_cases hb : b = a
      · have z' : some T = some u := (if_pos hb).symm.trans z
        injection z' with z'
        subst z'
        subst hb
        refine ⟨at_, ?_, vs, _, rv, at_⟩
        rw [List.length_map]
        exact short
      · have z' : (none : Option HO) = some u := (if_neg hb).symm.trans z
        injection z'
    · refine Classical.byContradiction fun hb => z (if_neg hb)
end
/-- the goal that k_head leaves, from the law's promise under FnG -/
theorem walkG {l : PySem.W.OpenLaw} {n k : Nat} {q : Program} {loose : List Str} {XP : (Str → Option Value) → Heap → Prop}
    {YP : World → Heap → Prop} {d : DefRec} {K : Params → PySem.W.Frag} {CX : World → CXT} {sp : World → Sp} {x : Str}
    (most : l.most = some n) (line : n ≤ sizeLine) (nod : d.params.defaults = []) (room : Room k callerA)
    (kin : ∀ (w : World) (h : Heap), YP w h → (K w.params).In h)
    (F : ∀ (w : World) (mg : Str → Option Value) (fa : Addr) (h : Heap),
      (K w.params).In h → h.Ns mainGlobals mg → mg d.name = some (.ref fa) →
      ∃ fd : FuncData, (∀ (s : Shared) (u : Value), BindsTo s fd ⟨[u], []⟩ [(x, u)]) ∧
        ∀ base : Heap, (K w.params).In base → base.Ns mainGlobals mg →
          FnG l.prog w (K w.params) mg base (CX w) k fa fd [x] (sp w))
    (prem : ∀ (w : World) (H : Hp) (a : Addr) (ns : List Int), ns.length ≤ n → Only H →
      SqL (K w.params) H a (ns.map V.int) → sp w [.ref a] H (fun v _ => v = .bl true) fun _ _ _ => False)
    (noX : ∀ (w : World) (H : Hp) (s : Shared) (e : Value) (s' : Shared),
      CX w [] H s (fun _ _ _ => False) e s' → False) :
    PySem.W.WalkO q loose XP YP l.row.toRowW d [] (fun f vs => PySem.call f vs) := by
  apply Att.attach_call most nod
  intro w s₀ s₁ mg mb fa o pm cd doc a vs ns G Y ho hd hcd hmg hobj hints hlen hg
  have kx := kin w _ Y
  obtain ⟨fd, hb, hF⟩ := F w mg fa _ kx G.T.g hmg
  refine callG kx G.T.g G.T.b G.T.builtins G.T.nolimit hg hobj hints (Nat.le_trans hlen line) room hF hb ?_ ?_
  · intro H hO hS
    exact prem w H a ns hlen hO hS
  · intro H e s'
    exact noX w H s₁ e s'
end Gd
namespace Gd
open PySem PySem.Spec PyProof.Rows L2
/-- plain data, or an empty dict -/
inductive D1 (K : PySem.W.Frag) (H : Hp) : V → PyData → Prop
  | dp {v : V} {d : PyData} (h : Dp K H v d) : D1 K H v d
  | emp {a : Addr} (h : H a = some (.dK [])) : D1 K H (.ref a) (.dict [])
inductive D1s (K : PySem.W.Frag) (H : Hp) : List V → List PyData → Prop
  | nil : D1s K H [] []
  | cons {v : V} {vs : List V} {d : PyData} {ds : List PyData} : D1 K H v d → D1s K H vs ds → D1s K H (v :: vs) (d :: ds)
/-- such, or a list or a tuple of such -/
inductive D2 (K : PySem.W.Frag) (H : Hp) : V → PyData → Prop
  | d1 {v : V} {d : PyData} (h : D1 K H v d) : D2 K H v d
  | lst {a : Addr} {xs : List V} {ds : List PyData} : SqL K H a xs → D1s K H xs ds → D2 K H (.ref a) (.list ds)
  | tup {a : Addr} {xs : List V} {ds : List PyData} : SqT K H a xs → D1s K H xs ds → D2 K H (.ref a) (.tuple ds)

mutual
theorem noDict {K : PySem.W.Frag} {H : Hp} : ∀ {v : V} {d : PyData}, Dp K H v d → d.hasDict = false
  | _, _, .non => by simp only [PyData.hasDict]
  | _, _, .bl _ => by simp only [PyData.hasDict]
  | _, _, .int _ => by simp only [PyData.hasDict]
  | _, _, .str _ => by simp only [PyData.hasDict]
  | _, _, .lst _ ha => by
    simp only [PyData.hasDict]
    exact noDicts ha
  | _, _, .tup _ ha => by
    simp only [PyData.hasDict]
    exact noDicts ha
theorem noDicts {K : PySem.W.Frag} {H : Hp} : ∀ {vs : List V} {ds : List PyData}, DpAll K H vs ds → PyData.hasDictAll ds = false
  | _, _, .nil => by simp only [PyData.hasDictAll]
  | _, _, .cons h1 h2 => by simp only [PyData.hasDictAll, noDict h1, noDicts h2, Bool.or_self]
end

section
variable {X : Cx} {pins : List (Addr × Obj)} {σ : L2.St} {H : Hp} {s : Shared}
theorem D1.rd (I : Inv X pins σ H s) {v : V} {d : PyData} {u : Value} (h : D1 X.K H v d) (r : RelV v u) :
    ∃ as, Reads s.heap u d as ∧ (d.hasDict = true → sysModules ∉ as) := by
  cases h with
  | dp h =>
    obtain ⟨as, q⟩ := Dp.reads I d v u h r
    exact ⟨as, q, PyData.noDict_hsm (noDict h)⟩
  | @emp a h =>
    cases (show u = Value.ref a from r)
    obtain ⟨_, hs, vs, kv, o, es, ep, q⟩ := (show ObjOk X.prog X.w H s.heap a (.dK []) from I.hok a _ h)
    cases kv
    obtain ⟨e1, e2, e3, e4⟩ := q
    have e5 : es.toList = [] := by
      have e6 := e4.2.1
      generalize es.toList = l at e6 ⊢
      cases e6
      rfl
    refine ⟨_, Reads.dict (kvs := []) (as := []) (bs := []) e1 e2.1 e3 ?_ ?_, fun _ => ?_⟩
    · rw [e5]
      exact .nil
    · rw [e5]
      exact .nil
    · intro z
      have z' : sysModules = a := by simpa using z
      rw [← z'] at hs
      simp at hs
theorem D1s.rd (I : Inv X pins σ H s) : ∀ {vs : List V} {ds : List PyData} {us : List Value}, D1s X.K H vs ds → Vals vs us →
    ∃ as, ReadsAll s.heap us ds as
  | _, _, _, .nil, .nil => ⟨_, .nil⟩
  | _, _, _, .cons h1 h2, .cons r1 r2 => by
    obtain ⟨as, q1, _⟩ := h1.rd I r1
    obtain ⟨bs, q2⟩ := D1s.rd I h2 r2
    exact ⟨_, .cons q1 q2⟩
theorem D1.one (I : Inv X pins σ H s) {v : V} {d : PyData} {u : Value} (h : D1 X.K H v d) (r : RelV v u)
    (hs : d.showable = true) (hz : d.shown.length ≤ sizeLine) :
    ∃ bs, ReadAtMost s.heap d.depth bs ∧ ReprK X.prog X.w bs s.heap d.depth u d.shown := by
  obtain ⟨as, q, hm⟩ := h.rd I r
  exact ReprK.of_reads q hs hm hz
theorem D1s.each (I : Inv X pins σ H s) {n : Nat} : ∀ {vs : List V} {ds : List PyData} {us : List Value}, D1s X.K H vs ds → Vals vs us →
    PyData.showableAll ds = true → (∀ t ∈ PyData.shownAll ds, t.length ≤ sizeLine) → PyData.depthAll ds ≤ n →
    ∃ bs, ReadAtMost s.heap n bs ∧ ReprAllK X.prog X.w bs s.heap n us (PyData.shownAll ds)
  | _, _, _, .nil, .nil, _, _, _ => ⟨[], (fun _ z => nomatch z), by simp only [PyData.shownAll]; exact .nil⟩
  | _, _, _, .cons (d := d) (ds := ds) h1 h2, .cons r1 r2, hs, hz, hn => by
    have hs' : d.showable = true ∧ PyData.showableAll ds = true := by simpa [PyData.showableAll] using hs
    simp only [PyData.depthAll] at hn
    simp only [PyData.shownAll] at hz ⊢
    obtain ⟨b1, m1, k1⟩ := h1.one I r1 hs'.1 (hz _ List.mem_cons_self)
    obtain ⟨b2, m2, k2⟩ := D1s.each I h2 r2 hs'.2 (fun t ht => hz t (List.mem_cons_of_mem _ ht)) (by omega : PyData.depthAll ds ≤ n)
    refine ⟨b1 ++ b2, (m1.mono (by omega)).append m2, .cons ((k1.more fun b hb => List.mem_append_left _ hb).level_le (by omega)) (k2.more_le (fun b hb => List.mem_append_right _ hb) (Nat.le_refl _))⟩
end

/-- repr of such data where no repr is under way -/
def rRepr (K : PySem.W.Frag) : List V → Hp → VK → Prop := fun xs H Q => ∃ v d, xs = [v] ∧ D2 K H v d ∧ d.showable = true ∧
  d.shown.length ≤ sizeLine ∧ d.depth ≤ 60 ∧ Q (.str d.shown) H
section
variable {X : Cx}
theorem call_repr (hG : X.A.guards = some []) (hu : X.A.units + 64 < cLine) : CallR X (.builtin "repr") (rRepr X.K) := by
  intro pins s σ H xs us Q I rel h
  obtain ⟨v, d, rfl, hd, hs, hz, hdep, q⟩ := h
  obtain ⟨u, rfl, r⟩ := vals1 rel
  cases hd with
  | d1 h1 =>
    cases h1 with
    | dp hp =>
      cases hp with
      | non =>
        cases (show u = Value.none from r)
        simp only [PyData.shown] at q
        exact PySem.P.repr_of_none ⟨.str _, H, I.tok _, ⟨_, rfl⟩, q⟩
      | bl b =>
        cases (show u = Value.bool b from r)
        simp only [PyData.shown] at q
        exact PySem.P.repr_of_bool ⟨.str _, H, I.tok _, ⟨_, rfl⟩, q⟩
      | int i =>
        obtain ⟨t, rfl⟩ := (show ∃ t, u = Value.int i t from r)
        simp only [PyData.shown] at q
        exact PySem.P.repr_of_int (by simpa [PyData.showable] using hs) ⟨.str _, H, I.tok _, ⟨_, rfl⟩, q⟩
      | str x =>
        obtain ⟨t, rfl⟩ := (show ∃ t, u = Value.str x t from r)
        simp only [PyData.shown] at q hz
        exact PySem.P.repr_of_str ⟨.str _, H, I.tok _, ⟨_, rfl⟩, q⟩ hz
      | @lst a ys ds hl ha =>
        cases (show u = Value.ref a from r)
        obtain ⟨as, rd, hm⟩ := (D1.dp (.lst hl ha) : D1 X.K H (.ref a) (.list ds)).rd I rfl
        exact repr_of_reads' rd hs hm hG (by omega) (fun _ _ z => z) (fun h' u tk hk => ⟨.str _, H, I.kept hk, ⟨_, rfl⟩, q⟩) hz
      | @tup a ys ds hl ha =>
        cases (show u = Value.ref a from r)
        obtain ⟨as, rd, hm⟩ := (D1.dp (.tup hl ha) : D1 X.K H (.ref a) (.tuple ds)).rd I rfl
        exact repr_of_reads' rd hs hm hG (by omega) (fun _ _ z => z) (fun h' u tk hk => ⟨.str _, H, I.kept hk, ⟨_, rfl⟩, q⟩) hz
    | @emp a ha =>
      cases (show u = Value.ref a from r)
      obtain ⟨as, rd, hm⟩ := (D1.emp ha : D1 X.K H (.ref a) (.dict [])).rd I rfl
      exact repr_of_reads' rd hs hm hG (by omega) (fun _ _ z => z) (fun h' u tk hk => ⟨.str _, H, I.kept hk, ⟨_, rfl⟩, q⟩) hz
  | @lst a ys ds hl ha =>
    cases (show u = Value.ref a from r)
    obtain ⟨its, rv, ⟨o, n, ho, hc, _, ho2⟩, _⟩ := I.list hl
    obtain ⟨as, rda⟩ := ha.rd I rv
    have hz' : (listText (PyData.shownAll ds)).length ≤ sizeLine := by simpa only [PyData.shown] using hz
    simp only [PyData.depth] at hdep
    obtain ⟨bs, hb, hk⟩ := ha.each I rv (by simpa [PyData.showable] using hs) (fun t ht => Nat.le_trans (listText_mem_le ht) hz') (Nat.le_refl _)
    have hna : a ∉ bs := not_mem_of_deeper (.list ho hc ho2 rda) (by simp only [PyData.depth]; omega) hb
    simp only [PyData.shown] at q
    have ty : s.TypeIs (.ref a) "list" := ⟨o, ho, hc⟩
    have fin : ∀ h' u tk, (∀ b o, s.heap.get? b = some o → h'.get? b = some o) →
        EP X pins σ Q (.str (listText (PyData.shownAll ds)) u) { s with heap := h', toks := tk } :=
      fun h' u tk hk => ⟨.str _, H, I.kept hk, ⟨_, rfl⟩, q⟩
    refine call_repr_slot (by omega) ty PySem.F.slot_list_repr.toG ?_
    cases its with
    | nil =>
      cases rda
      simp only [PyData.shownAll, listText_nil] at fin
      exact call_list_repr_empty ty ho ho2 ⟨_, _, rfl, fin s.heap _ _ fun _ _ e => e⟩
    | cons x l =>
      exact call_list_reprK ho hc ho2 hna (by simpa using hk.length_eq) (fun i y e => hk.item i y (by simpa using e)) hG
        (fun b _ => Clear.nil b) (by show X.A.units + 1 + (_ + 1) < cLine; omega) (fun _ _ z => z) (fun h' u tk hk => ⟨_, _, rfl, fin h' u tk hk⟩) hz'
  | @tup a ys ds hl ha =>
    cases (show u = Value.ref a from r)
    obtain ⟨its, rv, ⟨o, ho, hc, n, ho2⟩, _⟩ := I.tuple hl
    obtain ⟨as, rda⟩ := ha.rd I rv
    have hz' : (tupleText (PyData.shownAll ds)).length ≤ sizeLine := by simpa only [PyData.shown] using hz
    simp only [PyData.depth] at hdep
    obtain ⟨bs, hb, hk⟩ := ha.each I rv (by simpa [PyData.showable] using hs) (fun t ht => Nat.le_trans (tupleText_mem_le ht) hz') (Nat.le_refl _)
    have hna : a ∉ bs := not_mem_of_deeper (.tuple ho hc ho2 rda) (by simp only [PyData.depth]; omega) hb
    simp only [PyData.shown] at q
    have ty : s.TypeIs (.ref a) "tuple" := ⟨o, ho, hc⟩
    refine call_repr_slot (by omega) ty PySem.F.slot_tuple_repr ?_
    exact call_tuple_reprK ho hc ho2 hna (by simpa using hk) hG (fun b _ => Clear.nil b) (by show X.A.units + 1 + (_ + 1) < cLine; omega) (fun _ _ z => z)
      (fun h' u tk hk => ⟨_, _, rfl, ⟨.str _, H, I.kept hk, ⟨_, rfl⟩, q⟩⟩) hz'
end
end Gd
namespace Gd
open PySem PySem.Spec PyProof.Rows L2
/-- a def of the top, with its name -/
structure DefAt (K : PySem.W.Frag) (mg : Str → Option Value) (x : Str) (st : Stmt) (ps : List Str) : Prop where
  ex : ∃ (f : Addr) (fd : FuncData), Fun K x x st f fd ∧ mg x = some (.ref f) ∧ Binds K fd ps []
/-- a def by its name, its promise kept where no repr is under way -/
structure CalG (P : Program) (w : World) (K : PySem.W.Frag) (mg : Str → Option Value) (base : Heap) (k : Nat) (x : Str) (sp : Sp) : Prop where
  ex : ∃ (f : Addr) (fd : FuncData) (ps : List Str), FnG P w K mg base CX0 k f fd ps sp ∧ mg x = some (.ref f) ∧
    PySem.W.keepIn K (.ref f) = true ∧ Binds K fd ps []
section
variable {P : Program} {w : World} {K : PySem.W.Frag} {mg : Str → Option Value} {base : Heap}
theorem DefAt.cal {x : Str} {st : Stmt} {N ps : List Str} {k : Nat} {sp : Sp} (D : DefAt K mg x st ps) (S : FnScope N ps (defScope st))
    (ar : ∀ vs H Q E, sp vs H Q E → vs.length = ps.length)
    (bd : ∀ (f : Addr) (cdv : Value) (A : Around) (outer : List Env) (s : Shared) (H : Hp) (vs : List V) (Q : VK) (E : XK),
      A.guards = some [] → Room k (A.deeper (envOfC x (defScope st) s.heap.objs.size f cdv)) → sp vs H Q E →
      ∃ t, PSs (cxOf CX0 P w K mg base N x (defScope st) f cdv A outer s H E).nox (defBody st) t ∧
        t { nx := fun _ H' => Q .non H', rt := Q } (start N vs) H) : CalG P w K mg base (k + 1) x sp := by
  obtain ⟨f, fd, F, m, b⟩ := D.ex
  exact ⟨f, fd, ps, okG F S ar (bd f), m, F.kp, b⟩
theorem DefAt.mk' {X : K.In base} {x : Str} {st : Stmt} {ps : List Str} {f : Addr} {oc : Value} {od an : Option Addr} {osl : Array (Option Value)} {kV doc pm cdv ct : Value}
    (m : mg x = some (.ref f))
    (l : K.lookup f = some ⟨oc, od, .func (PySem.W.fnOf x x (defArgs st) (defBody st) (defScope st) .none kV doc pm an cdv ct), osl⟩)
    (c : PySem.W.codeIn K cdv x = true) (k : PySem.W.keepIn K (.ref f) = true)
    (b : ∀ (kV doc pm : Value) (an : Option Addr) (cdv ct : Value) (us : List Value), us.length = ps.length →
      bindArgs (PySem.W.fnOf x x (defArgs st) (defBody st) (defScope st) .none kV doc pm an cdv ct) ⟨us, []⟩ = pure (ps.zip us)) :
    DefAt K mg x st ps := by
  have F := fun_mk (st := st) l c k
  exact ⟨f, _, F, m, F.binds b⟩
end
section
variable {X : Cx} {k : Nat} {sp : Sp} {x : Str} {p pos : Pos} {e : Expr} {es : List Expr} {t : TA}
theorem pe_g (c : CalG X.prog X.w X.K X.mg X.base k x sp) (hG : X.A.guards = some []) (hr : Room k X.A) (hg : Gl X x)
    (ha : PA X (e :: es) t) (hdb : (x == ("__debug__" : Str)) = false := by decide)
    (he : starEach (e :: es) X.env = (false, eval e X.env) :: starEach es X.env := by rfl)
    (hpl : (backTo pos (starEach es X.env)).any (·.1) = false := by rfl) :
    PE X (.Call (.Name x p) (e :: es) [] pos) (tCall sp [] E0 t) := by
  obtain ⟨f, fd, ps, F, m, kp, b⟩ := c.ex
  exact pe_callG F hG hr hg m kp b .nil pass0 ha hdb he hpl
/-- a module's constant, a whole number -/
def GInt (mg : Str → Option Value) (x : Str) (n : Int) : Prop := ∃ t, mg x = some (.int n t)
theorem pe_gi {n : Int} (hg : Gl X x) (h : GInt X.mg x n) (hd : (x == ("__debug__" : Str)) = false := by decide) : PE X (.Name x pos) (tC (.int n)) := by
  obtain ⟨t, h⟩ := h
  exact pe_glob hg h ⟨t, rfl⟩ hd
theorem hu64 {A : Around} (hr : Room k A) : A.units + 64 < cLine := by
  have := hr.un
  omega
/-- x is True, x is False, for any x -/
def isB (x : V) (b : Bool) : Bool := match x with
  | .bl a => a == b
  | _ => false
theorem op_isB : OpR X (compareOp .Is) (fun x y H Q => ∃ b, y = .bl b ∧ Q (.bl (isB x b)) H) := by
  intro pins s σ H x y v u Q I rx ry h
  obtain ⟨b, rfl, q⟩ := h
  cases (show u = Value.bool b from ry)
  cases x with
  | non =>
    cases (show v = Value.none from rx)
    exact wpAny_is_other rfl (fun z => nomatch z) ⟨.bl false, H, I, rfl, q⟩
  | bl a =>
    cases (show v = Value.bool a from rx)
    by_cases e : a = b
    · subst e
      refine wpAny_is_self rfl ⟨.bl true, H, I, rfl, ?_⟩
      simpa [isB] using q
    · refine wpAny_is_other rfl (fun z => e (Value.bool.inj z)) ⟨.bl false, H, I, rfl, ?_⟩
      have e2 : isB (.bl a) b = false := beq_eq_false_iff_ne.mpr e
      rw [e2] at q
      exact q
  | int i =>
    obtain ⟨t, rfl⟩ := (show ∃ t, v = Value.int i t from rx)
    exact wpAny_is_other rfl (fun z => nomatch z) ⟨.bl false, H, I, rfl, q⟩
  | str i =>
    obtain ⟨t, rfl⟩ := (show ∃ t, v = Value.str i t from rx)
    exact wpAny_is_other rfl (fun z => nomatch z) ⟨.bl false, H, I, rfl, q⟩
  | byt i =>
    obtain ⟨t, rfl⟩ := (show ∃ t, v = Value.bytes i t from rx)
    exact wpAny_is_other rfl (fun z => nomatch z) ⟨.bl false, H, I, rfl, q⟩
  | flt i =>
    obtain ⟨t, rfl⟩ := (show ∃ t, v = Value.float i t from rx)
    exact wpAny_is_other rfl (fun z => nomatch z) ⟨.bl false, H, I, rfl, q⟩
  | ref i =>
    cases (show v = Value.ref i from rx)
    exact wpAny_is_other rfl (fun z => nomatch z) ⟨.bl false, H, I, rfl, q⟩
  | ty i =>
    cases (show v = Value.type i from rx)
    exact wpAny_is_other rfl (fun z => nomatch z) ⟨.bl false, H, I, rfl, q⟩
theorem op_isntB : OpR X (compareOp .IsNot) (fun x y H Q => ∃ b, y = .bl b ∧ Q (.bl (!isB x b)) H) := by
  intro pins s σ H x y v u Q I rx ry h
  obtain ⟨b, rfl, q⟩ := h
  cases (show u = Value.bool b from ry)
  cases x with
  | non =>
    cases (show v = Value.none from rx)
    exact wpAny_isNot_other rfl (fun z => nomatch z) ⟨.bl true, H, I, rfl, q⟩
  | bl a =>
    cases (show v = Value.bool a from rx)
    by_cases e : a = b
    · subst e
      refine wpAny_isNot_self rfl ⟨.bl false, H, I, rfl, ?_⟩
      simpa [isB] using q
    · refine wpAny_isNot_other rfl (fun z => e (Value.bool.inj z)) ⟨.bl true, H, I, rfl, ?_⟩
      have e2 : isB (.bl a) b = false := beq_eq_false_iff_ne.mpr e
      rw [e2] at q
      exact q
  | int i =>
    obtain ⟨t, rfl⟩ := (show ∃ t, v = Value.int i t from rx)
    exact wpAny_isNot_other rfl (fun z => nomatch z) ⟨.bl true, H, I, rfl, q⟩
  | str i =>
    obtain ⟨t, rfl⟩ := (show ∃ t, v = Value.str i t from rx)
    exact wpAny_isNot_other rfl (fun z => nomatch z) ⟨.bl true, H, I, rfl, q⟩
  | byt i =>
    obtain ⟨t, rfl⟩ := (show ∃ t, v = Value.bytes i t from rx)
    exact wpAny_isNot_other rfl (fun z => nomatch z) ⟨.bl true, H, I, rfl, q⟩
  | flt i =>
    obtain ⟨t, rfl⟩ := (show ∃ t, v = Value.float i t from rx)
    exact wpAny_isNot_other rfl (fun z => nomatch z) ⟨.bl true, H, I, rfl, q⟩
  | ref i =>
    cases (show v = Value.ref i from rx)
    exact wpAny_isNot_other rfl (fun z => nomatch z) ⟨.bl true, H, I, rfl, q⟩
  | ty i =>
    cases (show v = Value.type i from rx)
    exact wpAny_isNot_other rfl (fun z => nomatch z) ⟨.bl true, H, I, rfl, q⟩
end
/-! names of the built-ins -/
theorem boot_len_ : bootBuiltins "len" = some (.builtin "len") := by decide +kernel
theorem boot_max_ : bootBuiltins "max" = some (.builtin "max") := by decide +kernel
theorem boot_min_ : bootBuiltins "min" = some (.builtin "min") := by decide +kernel
theorem boot_abs_ : bootBuiltins "abs" = some (.builtin "abs") := by decide +kernel
theorem boot_all_ : bootBuiltins "all" = some (.builtin "all") := by decide +kernel
theorem boot_repr_ : bootBuiltins "repr" = some (.builtin "repr") := by decide +kernel
theorem boot_isinstance_ : bootBuiltins "isinstance" = some (.builtin "isinstance") := by decide +kernel
theorem boot_int_ : bootBuiltins "int" = some (.type "int") := by decide +kernel
theorem boot_bool_ : bootBuiltins "bool" = some (.type "bool") := by decide +kernel
theorem boot_str_ : bootBuiltins "str" = some (.type "str") := by decide +kernel
theorem boot_list_ : bootBuiltins "list" = some (.type "list") := by decide +kernel
theorem boot_tuple_ : bootBuiltins "tuple" = some (.type "tuple") := by decide +kernel
theorem boot_dict_ : bootBuiltins "dict" = some (.type "dict") := by decide +kernel

/-! ### the box of a cell: what is drawn of it is any number below the bound -/
def BoxAt (H : Hp) (b : Addr) : Prop := ∃ x y z : Int, 0 ≤ x ∧ 0 ≤ y ∧ y < 2147483629 ∧ H b = some (.lst [.int x, .int y, .int z])
/-- all but the box is kept -/
def Kp (b : Addr) (H H' : Hp) : Prop := ∀ c o, c ≠ b → H c = some o → H' c = some o
theorem Kp.refl {b : Addr} {H : Hp} : Kp b H H := fun _ _ _ z => z
theorem Kp.trans {b : Addr} {H H1 H2 : Hp} (h : Kp b H H1) (k : Kp b H1 H2) : Kp b H H2 := fun c o n z => k c o n (h c o n z)
theorem Kp.upd {b p : Addr} {H H' : Hp} {o : HO} (h : Kp b H H') (n : H' p = none) : Kp b H (upd H' p o) := fun c u hc z => by
  have z2 := h c u hc z
  rw [upd_ne (ne_of_none z2 n)]
  exact z2
theorem BoxAt.upd {b p : Addr} {H : Hp} {o : HO} (h : BoxAt H b) (n : H p = none) : BoxAt (L2.upd H p o) b := by
  obtain ⟨x, y, z, h1, h2, h3, h4⟩ := h
  refine ⟨x, y, z, h1, h2, h3, ?_⟩
  rw [upd_ne (ne_of_none h4 n)]
  exact h4
theorem BoxAt.ne {b p : Addr} {H : Hp} (h : BoxAt H b) (n : H p = none) : p ≠ b := by
  obtain ⟨x, y, z, _, _, _, h4⟩ := h
  exact (ne_of_none h4 n).symm
def spTake : Sp := fun vs H Q _ => ∃ (b : Addr) (m : Int), vs = [.ref b, .int m] ∧ BoxAt H b ∧ 0 < m ∧ m ≤ 1000000000 ∧
  ∀ (d : Int) (H' : Hp), 0 ≤ d → d < m → BoxAt H' b → (∀ c, c ≠ b → H' c = H c) → Q (.int d) H'
def spCell (K : PySem.W.Frag) : Sp := fun vs H Q _ => ∃ (a : Addr) (ns : List Int) (k : Int), vs = [.ref a, .int k] ∧ SqL K H a (ns.map V.int) ∧
  ns.length ≤ 63 ∧ 0 ≤ k ∧ ∀ n : Int, Q (.int n) H
def spBox : Sp := fun vs H Q _ => ∃ n : Int, vs = [.int n] ∧ ∀ (b : Addr) (H' : Hp), H b = none → BoxAt H' b → (∀ c, c ≠ b → H' c = H c) → Q (.ref b) H'
theorem kp_of {b : Addr} {H H' : Hp} (h : ∀ c, c ≠ b → H' c = H c) : Kp b H H' := fun c o n z => by
  rw [h c n]
  exact z
theorem atI_ints {ns : List Int} {k : Int} (h0 : 0 ≤ k) (h1 : k < ns.length) : ∃ n, atI (ns.map V.int) k = some (.int n) := by
  obtain ⟨j, rfl⟩ : ∃ j : Nat, k = j := ⟨k.toNat, by omega⟩
  have hj : j < ns.length := by omega
  refine ⟨ns[j], atI_nat ?_⟩
  rw [List.getElem?_map, List.getElem?_eq_getElem hj]
  rfl
end Gd
namespace Gd
open PySem PySem.Spec PyProof.Rows L2
/-! ### data by its shape -/
/-- all but what N names is kept -/
def Kq (N : Addr → Prop) (H H' : Hp) : Prop := ∀ c o, ¬ N c → H c = some o → H' c = some o
mutual
/-- the value shows the data d, laid in objects that N does not name -/
inductive Da (H : Hp) (N : Addr → Prop) : V → PyData → Prop
  | non : Da H N .non .none
  | bl (b : Bool) : Da H N (.bl b) (.bool b)
  | int (i : Int) : Da H N (.int i) (.int i)
  | str (x : Str) : Da H N (.str x) (.str x)
  | lst {a : Addr} {xs : List V} {ds : List PyData} : ¬ N a → H a = some (.lst xs) → Das H N xs ds → Da H N (.ref a) (.list ds)
  | tup {a : Addr} {xs : List V} {ds : List PyData} : ¬ N a → H a = some (.tup xs) → Das H N xs ds → Da H N (.ref a) (.tuple ds)
inductive Das (H : Hp) (N : Addr → Prop) : List V → List PyData → Prop
  | nil : Das H N [] []
  | cons {v : V} {vs : List V} {d : PyData} {ds : List PyData} : Da H N v d → Das H N vs ds → Das H N (v :: vs) (d :: ds)
end
mutual
theorem Da.kq {H H' : Hp} {N : Addr → Prop} (k : Kq N H H') : ∀ {v : V} {d : PyData}, Da H N v d → Da H' N v d
  | _, _, .non => .non
  | _, _, .bl b => .bl b
  | _, _, .int i => .int i
  | _, _, .str x => .str x
  | _, _, .lst n h s => .lst n (k _ _ n h) (Das.kq k s)
  | _, _, .tup n h s => .tup n (k _ _ n h) (Das.kq k s)
theorem Das.kq {H H' : Hp} {N : Addr → Prop} (k : Kq N H H') : ∀ {vs : List V} {ds : List PyData}, Das H N vs ds → Das H' N vs ds
  | _, _, .nil => .nil
  | _, _, .cons h s => .cons (Da.kq k h) (Das.kq k s)
end
mutual
theorem Da.wk {H : Hp} {N M : Addr → Prop} (k : ∀ a, M a → N a) : ∀ {v : V} {d : PyData}, Da H N v d → Da H M v d
  | _, _, .non => .non
  | _, _, .bl b => .bl b
  | _, _, .int i => .int i
  | _, _, .str x => .str x
  | _, _, .lst n h s => .lst (fun z => n (k _ z)) h (Das.wk k s)
  | _, _, .tup n h s => .tup (fun z => n (k _ z)) h (Das.wk k s)
theorem Das.wk {H : Hp} {N M : Addr → Prop} (k : ∀ a, M a → N a) : ∀ {vs : List V} {ds : List PyData}, Das H N vs ds → Das H M vs ds
  | _, _, .nil => .nil
  | _, _, .cons h s => .cons (Da.wk k h) (Das.wk k s)
end
mutual
theorem Da.dp {K : PySem.W.Frag} {H : Hp} {N : Addr → Prop} : ∀ {v : V} {d : PyData}, Da H N v d → Dp K H v d
  | _, _, .non => .non
  | _, _, .bl b => .bl b
  | _, _, .int i => .int i
  | _, _, .str x => .str x
  | _, _, .lst _ h s => .lst (SqL.of h) (Das.dp s)
  | _, _, .tup _ h s => .tup (SqT.of h) (Das.dp s)
theorem Das.dp {K : PySem.W.Frag} {H : Hp} {N : Addr → Prop} : ∀ {vs : List V} {ds : List PyData}, Das H N vs ds → DpAll K H vs ds
  | _, _, .nil => .nil
  | _, _, .cons h s => .cons (Da.dp h) (Das.dp s)
end
theorem Das.len {H : Hp} {N : Addr → Prop} : ∀ {vs : List V} {ds : List PyData}, Das H N vs ds → vs.length = ds.length
  | _, _, .nil => rfl
  | _, _, .cons _ s => by rw [List.length_cons, List.length_cons, s.len]
theorem Das.get {H : Hp} {N : Addr → Prop} : ∀ {vs : List V} {ds : List PyData} {i : Nat} {v : V}, Das H N vs ds → vs[i]? = some v → ∃ d, ds[i]? = some d ∧ Da H N v d
  | _, _, 0, _, .cons h _, e => ⟨_, rfl, by
      have e2 := Option.some.inj e
      subst e2
      exact h⟩
  | _, _, i + 1, v, .cons _ s, e => s.get (i := i) (v := v) e
  | _, _, i, _, .nil, e => by simp at e
theorem Das.snoc {H : Hp} {N : Addr → Prop} {v : V} {d : PyData} : ∀ {vs : List V} {ds : List PyData}, Das H N vs ds → Da H N v d → Das H N (vs ++ [v]) (ds ++ [d])
  | _, _, .nil, h => .cons h .nil
  | _, _, .cons g s, h => .cons g (s.snoc h)
theorem Das.set {H : Hp} {N : Addr → Prop} {v : V} {d : PyData} : ∀ {vs : List V} {ds : List PyData} {i : Nat}, Das H N vs ds → Da H N v d → Das H N (vs.set i v) (ds.set i d)
  | _, _, _, .nil, _ => .nil
  | _, _, 0, .cons _ s, h => .cons h s
  | _, _, _ + 1, .cons g s, h => .cons g (s.set h)

theorem same_sqT {K : PySem.W.Frag} {H H' : Hp} {a : Addr} {xs : List V} (s : Same H H') (h : SqT K H a xs) : SqT K H' a xs := by
  rcases h with h | h
  · refine .inl ?_
    rcases h with h | ⟨o, h⟩
    · exact .inl (s _ _ h)
    · exact .inr ⟨o, s _ _ h⟩
  · exact .inr h
mutual
theorem dpSame {K : PySem.W.Frag} {H H' : Hp} (s : Same H H') : ∀ {v : V} {d : PyData}, Dp K H v d → Dp K H' v d
  | _, _, .non => .non
  | _, _, .bl b => .bl b
  | _, _, .int i => .int i
  | _, _, .str x => .str x
  | _, _, .lst h r => .lst (s.seq h) (dpSames s r)
  | _, _, .tup h r => .tup (same_sqT s h) (dpSames s r)
theorem dpSames {K : PySem.W.Frag} {H H' : Hp} (s : Same H H') : ∀ {vs : List V} {ds : List PyData}, DpAll K H vs ds → DpAll K H' vs ds
  | _, _, .nil => .nil
  | _, _, .cons h r => .cons (dpSame s h) (dpSames s r)
end
theorem dpLen {K : PySem.W.Frag} {H : Hp} : ∀ {vs : List V} {ds : List PyData}, DpAll K H vs ds → vs.length = ds.length
  | _, _, .nil => rfl
  | _, _, .cons _ s => by rw [List.length_cons, List.length_cons, dpLen s]
theorem dpGet {K : PySem.W.Frag} {H : Hp} : ∀ {vs : List V} {ds : List PyData} {i : Nat} {v : V}, DpAll K H vs ds → vs[i]? = some v → ∃ d, ds[i]? = some d ∧ Dp K H v d
  | _, _, 0, _, .cons h _, e => ⟨_, rfl, by
      have e2 := Option.some.inj e
      subst e2
      exact h⟩
  | _, _, i + 1, v, .cons _ s, e => dpGet (i := i) (v := v) s e
  | _, _, i, _, .nil, e => by simp at e
theorem d1Same {K : PySem.W.Frag} {H H' : Hp} (s : Same H H') {v : V} {d : PyData} (h : D1 K H v d) : D1 K H' v d := by
  cases h with
  | dp h => exact .dp (dpSame s h)
  | emp h => exact .emp (s _ _ h)
/-! ### the class of data -/
def tyN : PyData → String
  | .none => "NoneType"
  | .bool _ => "bool"
  | .int _ => "int"
  | .str _ => "str"
  | .list _ => "list"
  | .tuple _ => "tuple"
  | .dict _ => "dict"
def isIntD : PyData → Bool
  | .bool _ => true
  | .int _ => true
  | _ => false
def isBoolD : PyData → Bool
  | .bool _ => true
  | _ => false
def isStrD : PyData → Bool
  | .str _ => true
  | _ => false
def isTupD : PyData → Bool
  | .tuple _ => true
  | _ => false
def isSeqD : PyData → Bool
  | .list _ => true
  | .tuple _ => true
  | _ => false
theorem tyL {K : PySem.W.Frag} {H : Hp} {a : Addr} {xs : List V} (h : SqL K H a xs) : TyX K H (.ref a) (.type "list") := by
  rcases h with h | ⟨o, _, _, h, hc, _⟩
  · rcases h with h | ⟨o, h⟩
    · exact .base (.lst h)
    · exact .base (.frz h)
  · exact .kList h hc
theorem tyT {K : PySem.W.Frag} {H : Hp} {a : Addr} {xs : List V} (h : SqT K H a xs) : TyX K H (.ref a) (.type "tuple") := by
  rcases h with h | ⟨o, _, _, h, hc, _⟩
  · rcases h with h | ⟨o, h⟩
    · exact .base (.tup h)
    · exact .fTuple h
  · exact .kTuple h hc
theorem tyD {K : PySem.W.Frag} {H : Hp} {v : V} {d : PyData} (h : D1 K H v d) : TyX K H v (.type (tyN d)) := by
  cases h with
  | dp h =>
    cases h with
    | non => exact .base .non
    | bl b => exact .base (.bl b)
    | int i => exact .base (.int i)
    | str x => exact .base (.str x)
    | lst h _ => exact tyL h
    | tup h _ => exact tyT h
  | emp h => exact .base (.dK h)
theorem kInt {K : PySem.W.Frag} (d : PyData) : PySem.W.kitOne K (.type (tyN d)) (.type "int") = some (isIntD d) := by
  cases d
  all_goals exact kit_ty (by simp only [tyN, isIntD]; decide +kernel)
theorem kBool {K : PySem.W.Frag} (d : PyData) : PySem.W.kitOne K (.type (tyN d)) (.type "bool") = some (isBoolD d) := by
  cases d
  all_goals exact kit_ty (by simp only [tyN, isBoolD]; decide +kernel)
theorem kStr {K : PySem.W.Frag} (d : PyData) : PySem.W.kitOne K (.type (tyN d)) (.type "str") = some (isStrD d) := by
  cases d
  all_goals exact kit_ty (by simp only [tyN, isStrD]; decide +kernel)
theorem kTup {K : PySem.W.Frag} (d : PyData) : PySem.W.kitOne K (.type (tyN d)) (.type "tuple") = some (isTupD d) := by
  cases d
  all_goals exact kit_ty (by simp only [tyN, isTupD]; decide +kernel)
theorem kLst {K : PySem.W.Frag} (d : PyData) : PySem.W.kitOne K (.type (tyN d)) (.type "list") = some (isSeqD d && !isTupD d) := by
  cases d
  all_goals exact kit_ty (by simp only [tyN, isSeqD, isTupD]; decide +kernel)
theorem kSeq {K : PySem.W.Frag} (d : PyData) : PySem.W.kitAny K (.type (tyN d)) [.type "list", .type "tuple"] = some (isSeqD d) := by
  refine kitAny_cons (kLst d) (fun z => kitAny_cons (kTup d) (fun y => ?_) fun y => ?_) fun z => ?_
  · have e : isSeqD d = false := by
      cases d
      all_goals simp_all [isSeqD, isTupD]
    rw [e]
    exact kitAny_nil
  · cases d
    all_goals simp_all [isSeqD, isTupD]
  · cases d
    all_goals simp_all [isSeqD, isTupD]
theorem clsSeq : Paired ClsV [.ty "list", .ty "tuple"] [.type "list", .type "tuple"] := .cons (.ty _) (.cons (.ty _) .nil)
/-! ### how long it is when shown -/
def Big (n : Int) : Prop := -(10 ^ 40) ≤ n ∧ n ≤ 10 ^ 40
theorem big_log {n : Int} (h : Big n) : n.natAbs.log2 < 1920 := by
  have h0 : n.natAbs < 2 ^ 1920 := by
    have h1 : n.natAbs ≤ 10 ^ 40 := by
      obtain ⟨h1, h2⟩ := h
      omega
    exact Nat.lt_of_le_of_lt h1 (by decide +kernel)
  by_cases z : n.natAbs = 0
  · rw [z]
    decide +kernel
  · exact (Nat.log2_lt z).mpr h0
/-- it may be shown, in so many signs, so deep -/
structure Okd (d : PyData) (m e : Nat) : Prop where
  sh : d.showable = true
  ln : d.shown.length ≤ m
  dp : d.depth ≤ e
theorem Okd.up {d : PyData} {m e m' e' : Nat} (h : Okd d m e) (h1 : m ≤ m') (h2 : e ≤ e') : Okd d m' e' := ⟨h.sh, Nat.le_trans h.ln h1, Nat.le_trans h.dp h2⟩
theorem okNone : Okd .none 5 0 := ⟨by simp only [PyData.showable], by simp only [PyData.shown]; decide +kernel, by simp only [PyData.depth]; decide⟩
theorem okBool (b : Bool) : Okd (.bool b) 5 0 := by
  refine ⟨by simp only [PyData.showable], ?_, by simp only [PyData.depth]; decide⟩
  cases b
  · simp only [PyData.shown]
    decide +kernel
  · simp only [PyData.shown]
    decide +kernel
theorem okInt {n : Int} (h : Big n) : Okd (.int n) 50 0 := by
  refine ⟨?_, ?_, by simp only [PyData.depth]; decide⟩
  · simp only [PyData.showable, decide_eq_true_eq]
    exact big_log h
  · simp only [PyData.shown]
    rw [PySem.ofString_length]
    have h1 : n.natAbs < 10 ^ 41 := by
      have h1 : n.natAbs ≤ 10 ^ 40 := by
        obtain ⟨h1, h2⟩ := h
        omega
      exact Nat.lt_of_le_of_lt h1 (by decide +kernel)
    exact Nat.le_trans (int_text_length_le10 (k := 41) (by decide) h1) (by decide)
theorem okStr {x : Str} {m : Nat} (h : (reprText x).length ≤ m) : Okd (.str x) m 0 :=
  ⟨by simp only [PyData.showable], by simp only [PyData.shown]; exact h, by simp only [PyData.depth]; decide⟩
theorem okEmp : Okd (.dict []) 5 1 := by
  refine ⟨by simp only [PyData.showable, PyData.showableKv], ?_, by simp only [PyData.depth, PyData.depthKv]; decide⟩
  simp only [PyData.shown, PyData.shownKv]
  decide +kernel
theorem sum_le {m : Nat} : ∀ ts : List Str, (∀ t ∈ ts, t.length ≤ m) → (ts.map (·.length)).sum ≤ m * ts.length
  | [], _ => by simp
  | t :: r, h => by
    have h1 := h t List.mem_cons_self
    have h2 := sum_le r fun x hx => h x (List.mem_cons_of_mem _ hx)
    rw [List.map_cons, List.sum_cons, List.length_cons, Nat.mul_succ]
    show t.length + _ ≤ _
    omega
theorem oks {m e : Nat} : ∀ {ds : List PyData}, (∀ d ∈ ds, Okd d m e) → PyData.showableAll ds = true ∧ (∀ t ∈ PyData.shownAll ds, t.length ≤ m) ∧ PyData.depthAll ds ≤ e ∧ (PyData.shownAll ds).length = ds.length
  | [], _ => ⟨by simp only [PyData.showableAll], by simp [PyData.shownAll], by simp only [PyData.depthAll]; exact Nat.zero_le _, by simp only [PyData.shownAll]; rfl⟩
  | d :: r, h => by
    have a := h d List.mem_cons_self
    obtain ⟨b1, b2, b3, b4⟩ := oks fun x hx => h x (List.mem_cons_of_mem _ hx)
    refine ⟨by simp only [PyData.showableAll, a.sh, b1, Bool.and_self], ?_, ?_, by simp only [PyData.shownAll, List.length_cons, b4]⟩
    · intro t ht
      simp only [PyData.shownAll, List.mem_cons] at ht
      rcases ht with rfl | ht
      · exact a.ln
      · exact b2 t ht
    · have := a.dp
      simp only [PyData.depthAll]
      omega
theorem okList {ds : List PyData} {m e n : Nat} (h : ∀ d ∈ ds, Okd d m e) (l : ds.length ≤ n) : Okd (.list ds) (m * n + 2 * n + 3) (e + 1) := by
  obtain ⟨b1, b2, b3, b4⟩ := oks h
  refine ⟨by simp only [PyData.showable, b1], ?_, by simp only [PyData.depth]; omega⟩
  simp only [PyData.shown]
  have h1 := listText_len_le (PyData.shownAll ds)
  have h2 := sum_le _ b2
  rw [b4] at h1 h2
  have h3 : m * ds.length ≤ m * n := Nat.mul_le_mul_left m l
  omega
theorem okTuple {ds : List PyData} {m e n : Nat} (h : ∀ d ∈ ds, Okd d m e) (l : ds.length ≤ n) : Okd (.tuple ds) (m * n + 2 * n + 3) (e + 1) := by
  obtain ⟨b1, b2, b3, b4⟩ := oks h
  refine ⟨by simp only [PyData.showable, b1], ?_, by simp only [PyData.depth]; omega⟩
  simp only [PyData.shown]
  have h1 := tupleText_len_le (PyData.shownAll ds)
  have h2 := sum_le _ b2
  rw [b4] at h1 h2
  have h3 : m * ds.length ≤ m * n := Nat.mul_le_mul_left m l
  omega
theorem line_le {n : Nat} (h : n ≤ 1000000) : n ≤ sizeLine := Nat.le_trans h (by decide)
theorem bLn (B : Bool) : (PyData.bool B).shown.length ≤ sizeLine := Nat.le_trans (okBool B).ln (by decide)
theorem bDp (B : Bool) : (PyData.bool B).depth ≤ 60 := Nat.le_trans (okBool B).dp (by decide)
theorem ifSame {x : V} {A B : Prop} (h : B) : if (!decide (x = x)) = true then A else B := by
  rw [decide_eq_true rfl]
  exact h
/-! ### heaps and picks -/
theorem same_new {H : Hp} {p : Addr} {o : HO} (h : H p = none) : Same H (upd H p o) := fun b x e => by
  rw [upd_ne (ne_of_none e h)]
  exact e
theorem kep {H : Hp} {p q : Addr} {o u : HO} (h : H p = some o) (n : H q = none) : (upd H q u) p = some o := by
  rw [upd_ne (ne_of_none h n)]
  exact h
theorem upd_none {H : Hp} {p q : Addr} {o : HO} (h : upd H p o q = none) : H q = none := by
  unfold upd at h
  split at h
  · cases h
  · exact h
theorem pickL (xs : List V) {k : Int} (h0 : 0 ≤ k) (h1 : k < xs.length) : ∃ v, v ∈ xs ∧ atI xs k = some v := by
  obtain ⟨j, rfl⟩ : ∃ j : Nat, k = j := ⟨k.toNat, by omega⟩
  have hj : j < xs.length := by omega
  exact ⟨xs[j], List.getElem_mem hj, atI_nat (List.getElem?_eq_getElem hj)⟩
theorem pickK (xs : List V) {k : Int} (h0 : 0 ≤ k) (h1 : k < xs.length) : ∃ v, xs[k.toNat]? = some v ∧ atI xs k = some v := by
  obtain ⟨j, rfl⟩ : ∃ j : Nat, k = j := ⟨k.toNat, by omega⟩
  have hj : j < xs.length := by omega
  exact ⟨xs[j], List.getElem?_eq_getElem hj, atI_nat (List.getElem?_eq_getElem hj)⟩
theorem boxAway {H : Hp} {b D : Addr} {o : HO} (h : BoxAt H b) (n : D ≠ b) : BoxAt (upd H D o) b := by
  obtain ⟨x, y, z, h1, h2, h3, h4⟩ := h
  refine ⟨x, y, z, h1, h2, h3, ?_⟩
  rw [upd_ne n.symm]
  exact h4
theorem boxSame {b : Addr} {H H' : Hp} (h : BoxAt H b) (s : Same H H') : BoxAt H' b := by
  obtain ⟨x, y, z, h1, h2, h3, h4⟩ := h
  exact ⟨x, y, z, h1, h2, h3, s _ _ h4⟩
theorem same_kp {b : Addr} {H H' : Hp} (s : Same H H') : Kp b H H' := fun c o _ z => s c o z
theorem same_keep {H H' H'' : Hp} {b : Addr} (s : Same H H') (n : H' b = none) (k : ∀ c o, c ≠ b → H' c = some o → H'' c = some o) : Same H H'' := fun c o z =>
  k c o (ne_of_none (s c o z) n) (s c o z)
/-- new in H, where the box is b -/
def Nw (H : Hp) (b : Addr) : Addr → Prop := fun c => c = b ∨ ∃ o, H c = some o
theorem nw_of {H H' : Hp} {b p : Addr} (k : Kp b H H') (n : H' p = none) (hb : p ≠ b) : ¬ Nw H b p := by
  rintro (h | ⟨o, h⟩)
  · exact hb h
  · rw [k p o hb h] at n
    cases n
theorem Kp.kq {b : Addr} {H H' : Hp} {N : Addr → Prop} (k : Kp b H H') (n : N b) : Kq N H H' := fun c o hc z => k c o (fun e => hc (e ▸ n)) z
theorem defAt {K : PySem.W.Frag} {mg : Str → Option Value} {x : Str} {st : Stmt} {ps : List Str} {f : Addr} {oc : Value} {od an : Option Addr} {osl : Array (Option Value)} {kV doc pm cdv ct : Value}
    (m : mg x = some (.ref f))
    (l : K.lookup f = some ⟨oc, od, .func (PySem.W.fnOf x x (defArgs st) (defBody st) (defScope st) .none kV doc pm an cdv ct), osl⟩)
    (c : PySem.W.codeIn K cdv x = true) (k : PySem.W.keepIn K (.ref f) = true)
    (b : ∀ (kV doc pm : Value) (an : Option Addr) (cdv ct : Value) (us : List Value), us.length = ps.length →
      bindArgs (PySem.W.fnOf x x (defArgs st) (defBody st) (defScope st) .none kV doc pm an cdv ct) ⟨us, []⟩ = pure (ps.zip us)) :
    DefAt K mg x st ps := by
  have F := fun_mk (st := st) l c k
  exact ⟨f, _, F, m, F.binds b⟩
end Gd
namespace Kx
open PySem PySem.Spec PyProof.Rows L2 Gd
def topS (i : Nat) : Stmt := PySem.Challenge.pw_makeskept_k02_changes.main.body.getD i (.Pass ⟨0, 0, 0, 0⟩)
abbrev s_is_whole : Stmt := topS 3
abbrev s_is_worth : Stmt := topS 4
abbrev s_is_changes : Stmt := topS 5
abbrev s__is_change : Stmt := topS 6
abbrev s__law_cell : Stmt := topS 8
abbrev s__law_box : Stmt := topS 9
abbrev s__law_take : Stmt := topS 10
abbrev s__law_worth : Stmt := topS 11
abbrev s__law_is : Stmt := topS 12
abbrev s__law_other : Stmt := topS 13
abbrev s__law_are : Stmt := topS 14
abbrev s__law_changes : Stmt := topS 15
abbrev s_law : Stmt := topS 16
theorem sc_is_whole : FnScope ["thing", "low", "high"] ["thing", "low", "high"] (defScope s_is_whole) := ⟨rfl, rfl, rfl, by decide +kernel, rfl, by decide +kernel, by decide +kernel⟩
theorem sc_is_worth : FnScope ["thing"] ["thing"] (defScope s_is_worth) := ⟨rfl, rfl, rfl, by decide +kernel, rfl, by decide +kernel, by decide +kernel⟩
theorem sc_is_changes : FnScope ["thing", "size", "change"] ["thing", "size"] (defScope s_is_changes) := ⟨rfl, rfl, rfl, by decide +kernel, rfl, by decide +kernel, by decide +kernel⟩
theorem sc__is_change : FnScope ["thing", "size"] ["thing", "size"] (defScope s__is_change) := ⟨rfl, rfl, rfl, by decide +kernel, rfl, by decide +kernel, by decide +kernel⟩
theorem sc__law_cell : FnScope ["_law_script", "_law_k"] ["_law_script", "_law_k"] (defScope s__law_cell) := ⟨rfl, rfl, rfl, by decide +kernel, rfl, by decide +kernel, by decide +kernel⟩
theorem sc__law_box : FnScope ["_law_cell_here"] ["_law_cell_here"] (defScope s__law_box) := ⟨rfl, rfl, rfl, by decide +kernel, rfl, by decide +kernel, by decide +kernel⟩
theorem sc__law_take : FnScope ["_law_box_here", "_law_many", "_law_digit", "_law_number"] ["_law_box_here", "_law_many"] (defScope s__law_take) := ⟨rfl, rfl, rfl, by decide +kernel, rfl, by decide +kernel, by decide +kernel⟩
theorem sc__law_worth : FnScope ["_law_box_here"] ["_law_box_here"] (defScope s__law_worth) := ⟨rfl, rfl, rfl, by decide +kernel, rfl, by decide +kernel, by decide +kernel⟩
theorem sc__law_is : FnScope ["_law_thing", "_law_low", "_law_high"] ["_law_thing", "_law_low", "_law_high"] (defScope s__law_is) := ⟨rfl, rfl, rfl, by decide +kernel, rfl, by decide +kernel, by decide +kernel⟩
theorem sc__law_other : FnScope ["_law_box_here", "_law_change", "_law_size", "_law_place", "_law_worth_here", "_law_odd", "_law_some"] ["_law_box_here", "_law_change", "_law_size"] (defScope s__law_other) := ⟨rfl, rfl, rfl, by decide +kernel, rfl, by decide +kernel, by decide +kernel⟩
theorem sc__law_are : FnScope ["_law_thing", "_law_size", "_law_change"] ["_law_thing", "_law_size"] (defScope s__law_are) := ⟨rfl, rfl, rfl, by decide +kernel, rfl, by decide +kernel, by decide +kernel⟩
theorem sc__law_changes : FnScope ["_law_box_here", "_law_size", "_law_spoilt", "_law_kind", "_law_many", "_law_found", "_law_at", "_law_k"] ["_law_box_here", "_law_size"] (defScope s__law_changes) := ⟨rfl, rfl, rfl, by decide +kernel, rfl, by decide +kernel, by decide +kernel⟩
theorem sc_law : FnScope ["_law_script", "_law_k", "_law_box_here", "_law_size", "_law_turn", "_law_thing", "_law_kept"] ["_law_script"] (defScope s_law) := ⟨rfl, rfl, rfl, by decide +kernel, rfl, by decide +kernel, by decide +kernel⟩
structure Txt (K : PySem.W.Frag) (mg : Str → Option Value) : Prop where
  b_len : mg "len" = none
  b_max : mg "max" = none
  b_min : mg "min" = none
  b_all : mg "all" = none
  b_range : mg "range" = none
  b_repr : mg "repr" = none
  b_isinstance : mg "isinstance" = none
  t_int : mg "int" = none
  t_bool : mg "bool" = none
  t_list : mg "list" = none
  t_tuple : mg "tuple" = none
  g_MOST_WORTH : GInt mg "MOST_WORTH" (10 ^ 30 - 1)
  g_MOST_CHANGES : GInt mg "MOST_CHANGES" 20
section
variable {P : Program} {w : World} {K : PySem.W.Frag} {mg : Str → Option Value} {base : Heap}
theorem ok_cell (T : Txt K mg) (D : DefAt K mg "_law_cell" s__law_cell ["_law_script", "_law_k"]) : CalG P w K mg base 1 "_law_cell" (spCell K) := by
  refine D.cal sc__law_cell (fun vs H Q E h => ?_) (fun f cdv A outer s H vs Q E hG hr h => ?_)
  · obtain ⟨a, ns, k, rfl, _⟩ := h
    rfl
  · obtain ⟨a, ns, k, rfl, hS, hl, hk, q⟩ := h
    refine ⟨_, (pss_cons (ps_if (pt_cmpR op_lt (pv 1) (pe_callB call_len (by rfl) T.b_len boot_len_ (pa_cons (pv 0) pa_nil)) (nomark _))
          (pss_one (ps_ret (pe_ix ix_list (pv 0) (pv 1) (fun _ _ => rfl)))) pss_nil)
      (pss_one (ps_ret (pe_op op_add (pe_op op_mul pe_int (pv 1)) pe_int)))), ?_⟩
    refine ⟨_, rfl, _, rfl, _, _, rfl, .inl ⟨_, hS, rfl⟩, _, _, rfl, rfl, _, rfl, ?_⟩
    refine ite2 (fun e => ?_) (fun e => ?_)
    · have e2 := of_decide_eq_true e
      rw [List.length_map] at e2
      obtain ⟨n, hn⟩ := atI_ints hk e2
      exact ⟨_, rfl, _, rfl, _, _, _, _, rfl, rfl, hS, hn, q n⟩
    · exact ⟨_, rfl, _, _, rfl, rfl, .inl ⟨by decide, by decide⟩, _, _, rfl, rfl, q _⟩
theorem ok_box (T : Txt K mg) (D : DefAt K mg "_law_box" s__law_box ["_law_cell_here"]) : CalG P w K mg base 1 "_law_box" spBox := by
  refine D.cal sc__law_box (fun vs H Q E h => ?_) (fun f cdv A outer s H vs Q E hG hr h => ?_)
  · obtain ⟨n, rfl, _⟩ := h
    rfl
  · obtain ⟨n, rfl, q⟩ := h
    refine ⟨_, (pss_one (ps_ret (pe_lst (pa_cons (pe_callB (call_max2 rfl) (by rfl) T.b_max boot_max_ (pa_cons pe_int (pa_cons (pe_op op_sub (pv 0) (pe_op op_pow pe_int pe_int)) pa_nil))) (pa_cons (pe_op op_mod (pv 0) pe_int) (pa_cons pe_int pa_nil)))))), ?_⟩
    refine ⟨_, rfl, _, _, rfl, rfl, ⟨by decide, by decide, by decide⟩, _, _, rfl, rfl, _, _, rfl, ?_⟩
    refine ⟨_, rfl, _, _, rfl, rfl, (by show (0 : Int) < 2147483629; decide), ?_⟩
    refine ⟨(by show 3 ≤ sizeLine; decide), fun l hl => ?_⟩
    refine q l _ hl ⟨_, _, _, ?_, ?_, ?_, upd_same⟩ fun c hc => upd_ne hc
    · split <;> omega
    · exact Int.emod_nonneg _ (by decide)
    · exact Int.emod_lt_of_pos _ (by decide)
theorem ok_take (T : Txt K mg) (D : DefAt K mg "_law_take" s__law_take ["_law_box_here", "_law_many"]) : CalG P w K mg base 1 "_law_take" spTake := by
  refine D.cal sc__law_take (fun vs H Q E h => ?_) (fun f cdv A outer s H vs Q E hG hr h => ?_)
  · obtain ⟨b, m, rfl, _⟩ := h
    rfl
  · obtain ⟨b, m, rfl, hB, hm0, hm1, q⟩ := h
    obtain ⟨x, y, z, hx, hy0, hy1, hb⟩ := hB
    have hS := SqL.of (K := K) hb
    refine ⟨_, (pss_cons (ps_if (pt_cmpR op_gt (pe_ix ix_list (pv 0) pe_int (fun _ _ => rfl)) pe_int (nomark _))
          (pss_cons (ps_set (i := 2) sc__law_take.nd rfl (Or.inl rfl) (pe_op op_mod (pe_ix ix_list (pv 0) pe_int (fun _ _ => rfl)) (pv 1)))
          (pss_cons (ps_asg (pe_op op_fdiv (pe_ix ix_list (pv 0) pe_int (fun _ _ => rfl)) (pv 1)) (pg_sub (pv 0) pe_int set_list))
          (pss_one (ps_ret (pv 2))))) pss_nil)
      (pss_cons (ps_asg (pe_op op_add (pe_ix ix_list (pv 0) pe_int (fun _ _ => rfl)) pe_int) (pg_sub (pv 0) pe_int set_list))
      (pss_cons (ps_set (i := 3) sc__law_take.nd rfl (Or.inl rfl) (pe_op op_mod (pe_op op_mul (pe_op op_add (pe_ix ix_list (pv 0) pe_int (fun _ _ => rfl)) pe_int) (pe_op op_add (pe_op op_mul pe_int (pe_ix ix_list (pv 0) pe_int (fun _ _ => rfl))) pe_int)) pe_int))
      (pss_cons (ps_set (i := 3) sc__law_take.nd rfl (Or.inl rfl) (pe_op op_mod (pe_op op_pow (pv 3) pe_int) pe_int))
      (pss_one (ps_ret (pe_op op_mod (pe_op op_fdiv (pe_op op_mod (pe_op op_pow (pe_op op_add (pv 3) (pe_op op_fdiv (pe_ix ix_list (pv 0) pe_int (fun _ _ => rfl)) pe_int)) pe_int) pe_int) pe_int) (pv 1)))))))), ?_⟩
    refine ⟨_, rfl, _, _, _, _, rfl, rfl, hS, rfl, _, _, rfl, rfl, _, rfl, ?_⟩
    refine ite2 (fun e => ?_) (fun e => ?_)
    · have e2 := of_decide_eq_true e
      refine ⟨_, rfl, _, _, _, _, rfl, rfl, hS, rfl, _, rfl, _, _, rfl, rfl, hm0, ?_⟩
      refine ⟨_, rfl, _, _, _, _, rfl, rfl, hS, rfl, _, rfl, _, _, rfl, rfl, ⟨hm0, by omega⟩, ?_⟩
      refine ⟨_, rfl, _, _, _, _, rfl, rfl, hb, rfl, ?_⟩
      refine ⟨_, rfl, ?_⟩
      refine q _ _ (Int.emod_nonneg _ (by omega)) (Int.emod_lt_of_pos _ hm0) ⟨_, _, _, ?_, hy0, hy1, upd_same⟩ fun c hc => upd_ne hc
      exact Int.ediv_nonneg (by omega) (by omega)
    · refine ⟨_, rfl, _, _, _, _, rfl, rfl, hS, rfl, _, _, rfl, rfl, ?_⟩
      refine ⟨_, rfl, _, _, _, _, rfl, rfl, hb, rfl, ?_⟩
      have hb1 : (upd H b (.lst [.int x, .int y, .int (z + 1)])) b = some (.lst [.int x, .int y, .int (z + 1)]) := upd_same
      have hS1 := SqL.of (K := K) hb1
      refine ⟨_, rfl, _, _, _, _, rfl, rfl, hS1, rfl, _, _, rfl, rfl, ?_⟩
      refine ⟨_, rfl, _, _, _, _, rfl, rfl, hS1, rfl, _, _, rfl, rfl, .inl ⟨by decide, by decide⟩, _, _, rfl, rfl, ?_⟩
      refine ⟨_, _, rfl, rfl, .inl ⟨by omega, by omega⟩, _, _, rfl, rfl, (by show (0 : Int) < 2147483647; decide), ?_⟩
      generalize hA : (y + 31337) * (2 * (z + 1) + 1) % 2147483647 = A
      have a0 : 0 ≤ A := hA ▸ Int.emod_nonneg _ (by decide)
      have a1 : A < 2147483647 := hA ▸ Int.emod_lt_of_pos _ (by decide)
      clear hA
      refine ⟨_, rfl, _, _, rfl, rfl, ⟨by decide, by decide, by omega⟩, _, _, rfl, rfl, (by show (0 : Int) < 2147483629; decide), ?_⟩
      show _
      generalize hB : A ^ (5 : Int).toNat % 2147483629 = B
      have b0 : 0 ≤ B := hB ▸ Int.emod_nonneg _ (by decide)
      have b1 : B < 2147483629 := hB ▸ Int.emod_lt_of_pos _ (by decide)
      clear hB
      refine ⟨_, rfl, _, rfl, _, _, _, _, rfl, rfl, hS1, rfl, _, _, rfl, rfl, ⟨by decide, by decide⟩, _, _, rfl, rfl, ?_⟩
      have c0 : 0 ≤ y / 65536 := Int.ediv_nonneg hy0 (by decide)
      have c1 : y / 65536 < 65536 := by omega
      refine ⟨_, _, rfl, rfl, ⟨by decide, by decide, by omega⟩, _, _, rfl, rfl, (by show (0 : Int) < 2147483587; decide), ?_⟩
      refine ⟨_, _, rfl, rfl, ⟨by decide, by decide⟩, ?_⟩
      refine ⟨_, rfl, _, _, rfl, rfl, hm0, ?_⟩
      exact q _ _ (Int.emod_nonneg _ (by omega)) (Int.emod_lt_of_pos _ hm0) ⟨_, _, _, hx, hy0, hy1, upd_same⟩ fun c hc => upd_ne hc
/-! ### what is a whole number, a worth, a change -/
def wholeD (d : PyData) (lo hi : Int) : Bool := match d with
  | .int n => decide (lo ≤ n) && decide (n ≤ hi)
  | _ => false
def top30 : Int := 10 ^ 30 - 1
def worthD (d : PyData) : Bool := wholeD d (-top30) top30
def changeD (d : PyData) (size : Int) : Bool := match d with
  | .tuple [x, y] => wholeD x 0 (size - 1) && worthD y
  | _ => false
def changesD (d : PyData) (size : Int) : Bool := match d with
  | .list ds => decide (ds.length ≤ 20) && ds.all fun d => changeD d size
  | .tuple ds => decide (ds.length ≤ 20) && ds.all fun d => changeD d size
  | _ => false
theorem d1Int {H : Hp} {v : V} {n : Int} (h : D1 K H v (.int n)) : v = .int n := by
  cases h with
  | dp h =>
    cases h
    rfl
theorem d1Bool {H : Hp} {v : V} {b : Bool} (h : D1 K H v (.bool b)) : v = .bl b := by
  cases h with
  | dp h =>
    cases h
    rfl
theorem d1Tup {H : Hp} {v : V} {ds : List PyData} (h : D1 K H v (.tuple ds)) : ∃ a xs, v = .ref a ∧ SqT K H a xs ∧ DpAll K H xs ds := by
  cases h with
  | dp h =>
    cases h with
    | tup h r => exact ⟨_, _, rfl, h, r⟩
theorem d1Lst {H : Hp} {v : V} {ds : List PyData} (h : D1 K H v (.list ds)) : ∃ a xs, v = .ref a ∧ SqL K H a xs ∧ DpAll K H xs ds := by
  cases h with
  | dp h =>
    cases h with
    | lst h r => exact ⟨_, _, rfl, h, r⟩
def spWhole (K : PySem.W.Frag) : Sp := fun vs H Q _ => ∃ (v : V) (d : PyData) (lo hi : Int), vs = [v, .int lo, .int hi] ∧ D1 K H v d ∧ Q (.bl (wholeD d lo hi)) H
theorem chain_end {lo n hi : Int} {Q : VK} {H : Hp} (q : Q (.bl (wholeD (.int n) lo hi)) H) :
    (if decide (lo ≤ n) = true then Q (.bl (decide (n ≤ hi))) H else Q (.bl false) H) := by
  have e : wholeD (.int n) lo hi = (decide (lo ≤ n) && decide (n ≤ hi)) := rfl
  rw [e] at q
  by_cases hl : lo ≤ n
  · rw [decide_eq_true hl] at q ⊢
    exact iteT q
  · rw [decide_eq_false hl] at q ⊢
    exact iteF q
theorem ok_whole (T : Txt K mg) (D : DefAt K mg "is_whole" s_is_whole ["thing", "low", "high"]) : CalG P w K mg base 1 "is_whole" (spWhole K) := by
  refine D.cal sc_is_whole (fun vs H Q E h => ?_) (fun f cdv A outer s H vs Q E hG hr h => ?_)
  · obtain ⟨v, d, lo, hi, rfl, _⟩ := h
    rfl
  · obtain ⟨v, d, lo, hi, rfl, hd, q⟩ := h
    have ty := tyD hd
    refine ⟨_, (pss_one (ps_ret (pe_and (pe_callB call_isi (by rfl) T.b_isinstance boot_isinstance_ (pa_cons (pv 0) (pa_cons (pe_bltn (v := .ty "int") (by rfl) T.t_int boot_int_ rfl) pa_nil))) (pe_and (pe_not (pe_callB call_isi (by rfl) T.b_isinstance boot_isinstance_ (pa_cons (pv 0) (pa_cons (pe_bltn (v := .ty "bool") (by rfl) T.t_bool boot_bool_ rfl) pa_nil)))) (pe_one (pe_chain op_le op_le (pv 1) (pv 0) (pv 2))))))), ?_⟩
    refine ⟨_, rfl, v, .ty "int", _, .type "int", _, rfl, .ty _, ty, kInt d, _, rfl, ?_⟩
    cases d with
    | int n =>
      cases d1Int hd
      refine iteT ?_
      refine ⟨_, rfl, _, .ty "bool", _, .type "bool", _, rfl, .ty _, ty, kBool _, _, rfl, _, rfl, ?_⟩
      refine iteT ?_
      refine ⟨_, rfl, _, rfl, _, _, rfl, rfl, _, rfl, ?_⟩
      have z := chain_end (Q := Q) q
      split
      · rename_i hl
        rw [if_pos hl] at z
        exact ⟨_, rfl, _, _, rfl, rfl, z⟩
      · rename_i hl
        rw [if_neg hl] at z
        exact z
    | bool x =>
      refine iteT ?_
      refine ⟨_, rfl, _, .ty "bool", _, .type "bool", _, rfl, .ty _, ty, kBool _, _, rfl, _, rfl, ?_⟩
      exact iteF q
    | none => exact iteF q
    | str x => exact iteF q
    | list x => exact iteF q
    | tuple x => exact iteF q
    | dict x => exact iteF q
theorem ok_lawis (T : Txt K mg) (D : DefAt K mg "_law_is" s__law_is ["_law_thing", "_law_low", "_law_high"]) : CalG P w K mg base 1 "_law_is" (spWhole K) := by
  refine D.cal sc__law_is (fun vs H Q E h => ?_) (fun f cdv A outer s H vs Q E hG hr h => ?_)
  · obtain ⟨v, d, lo, hi, rfl, _⟩ := h
    rfl
  · obtain ⟨v, d, lo, hi, rfl, hd, q⟩ := h
    have ty := tyD hd
    refine ⟨_, (pss_one (ps_ret (pe_and (pe_callB call_isi (by rfl) T.b_isinstance boot_isinstance_ (pa_cons (pv 0) (pa_cons (pe_bltn (v := .ty "int") (by rfl) T.t_int boot_int_ rfl) pa_nil))) (pe_and (pe_cmpR op_isntB (pv 0) pe_bl (nomark _)) (pe_and (pe_cmpR op_isntB (pv 0) pe_bl (nomark _)) (pe_one (pe_chain op_le op_le (pv 1) (pv 0) (pv 2)))))))), ?_⟩
    refine ⟨_, rfl, v, .ty "int", _, .type "int", _, rfl, .ty _, ty, kInt d, _, rfl, ?_⟩
    cases d with
    | int n =>
      cases d1Int hd
      refine iteT ⟨_, rfl, true, rfl, _, rfl, iteT ⟨_, rfl, false, rfl, _, rfl, iteT ?_⟩⟩
      refine ⟨_, rfl, _, rfl, _, _, rfl, rfl, _, rfl, ?_⟩
      have z := chain_end (Q := Q) q
      split
      · rename_i hl
        rw [if_pos hl] at z
        exact ⟨_, rfl, _, _, rfl, rfl, z⟩
      · rename_i hl
        rw [if_neg hl] at z
        exact z
    | bool x =>
      cases d1Bool hd
      refine iteT ⟨_, rfl, true, rfl, _, rfl, ?_⟩
      cases x with
      | true => exact iteF q
      | false => exact iteT ⟨_, rfl, false, rfl, _, rfl, iteF q⟩
    | none => exact iteF q
    | str x => exact iteF q
    | list x => exact iteF q
    | tuple x => exact iteF q
    | dict x => exact iteF q
def spWorth (K : PySem.W.Frag) : Sp := fun vs H Q _ => ∃ (v : V) (d : PyData), vs = [v] ∧ D1 K H v d ∧ Q (.bl (worthD d)) H
theorem ok_worth (T : Txt K mg) (c_is_whole : CalG P w K mg base 1 "is_whole" (spWhole K)) (D : DefAt K mg "is_worth" s_is_worth ["thing"]) : CalG P w K mg base 2 "is_worth" (spWorth K) := by
  refine D.cal sc_is_worth (fun vs H Q E h => ?_) (fun f cdv A outer s H vs Q E hG hr h => ?_)
  · obtain ⟨v, d, rfl, _⟩ := h
    rfl
  · obtain ⟨v, d, rfl, hd, q⟩ := h
    refine ⟨_, (pss_one (ps_ret (pe_g c_is_whole hG (hr.mono (by decide)) (by rfl) (pa_cons (pv 0) (pa_cons (pe_un un_neg (pe_gi rfl T.g_MOST_WORTH)) (pa_cons (pe_gi rfl T.g_MOST_WORTH) pa_nil)))))), ?_⟩
    exact ⟨_, rfl, _, rfl, v, d, _, _, rfl, hd, q⟩
def spChange (K : PySem.W.Frag) : Sp := fun vs H Q _ => ∃ (v : V) (d : PyData) (size : Int), vs = [v, .int size] ∧ D1 K H v d ∧ Q (.bl (changeD d size)) H
theorem len_test {n : Nat} : decide (V.int (n : Nat) = V.int 2) = decide (n = 2) := by
  by_cases h : n = 2
  · rw [h]
    decide
  · rw [decide_eq_false h]
    exact decide_eq_false fun z => h (by have := V.int.inj z; omega)
theorem two_of {α : Type} : ∀ {xs : List α}, xs.length = 2 → ∃ x y, xs = [x, y]
  | [x, y], _ => ⟨x, y, rfl⟩
theorem dp_two {H : Hp} {vx vy : V} {ds : List PyData} (h : DpAll K H [vx, vy] ds) : ∃ dx dy, ds = [dx, dy] ∧ Dp K H vx dx ∧ Dp K H vy dy := by
  cases h with
  | cons h1 h2 =>
    cases h2 with
    | cons h3 h4 =>
      cases h4
      exact ⟨_, _, rfl, h1, h3⟩
theorem ok_change (T : Txt K mg) (c_is_whole : CalG P w K mg base 1 "is_whole" (spWhole K)) (c_is_worth : CalG P w K mg base 2 "is_worth" (spWorth K))
    (D : DefAt K mg "_is_change" s__is_change ["thing", "size"]) : CalG P w K mg base 3 "_is_change" (spChange K) := by
  refine D.cal sc__is_change (fun vs H Q E h => ?_) (fun f cdv A outer s H vs Q E hG hr h => ?_)
  · obtain ⟨v, d, size, rfl, _⟩ := h
    rfl
  · obtain ⟨v, d, size, rfl, hd, q⟩ := h
    have ty := tyD hd
    refine ⟨_, (pss_cons (ps_if (PW.pt (pw_or (pt_not (pt_val (pe_callB call_isi (by rfl) T.b_isinstance boot_isinstance_ (pa_cons (pv 0) (pa_cons (pe_bltn (v := .ty "tuple") (by rfl) T.t_tuple boot_tuple_ rfl) pa_nil))))) (pw_or1 (pt_cmpR op_ne (pe_callB call_len (by rfl) T.b_len boot_len_ (pa_cons (pv 0) pa_nil)) pe_int (nomark _)))))
          (pss_one (ps_ret pe_bl)) pss_nil)
      (pss_one (ps_ret (pe_and (pe_g c_is_whole hG (hr.mono (by decide)) (by rfl) (pa_cons (pe_ix ix_tup (pv 0) pe_int (fun _ _ => rfl)) (pa_cons pe_int (pa_cons (pe_op op_sub (pv 1) pe_int) pa_nil)))) (pe_one (pe_g c_is_worth hG (hr.mono (by decide)) (by rfl) (pa_cons (pe_ix ix_tup (pv 0) pe_int (fun _ _ => rfl)) pa_nil))))))), ?_⟩
    refine ⟨_, rfl, v, .ty "tuple", _, .type "tuple", _, rfl, .ty _, ty, kTup d, _, rfl, ?_⟩
    cases d with
    | tuple ds =>
      obtain ⟨a, xs, rfl, hT, hds⟩ := d1Tup hd
      have hlen := dpLen hds
      refine iteF ⟨_, rfl, .ref a, xs.length, rfl, .inr ⟨_, hT, rfl⟩, rfl, _, rfl, ?_⟩
      rw [len_test]
      by_cases hl : xs.length = 2
      · rw [decide_eq_true hl]
        refine iteF ?_
        obtain ⟨vx, vy, rfl⟩ := two_of hl
        obtain ⟨dx, dy, rfl, hx, hy⟩ := dp_two hds
        have g0 : atI [vx, vy] (0 : Int) = some vx := rfl
        have g1 : atI [vx, vy] (1 : Int) = some vy := rfl
        refine ⟨_, rfl, a, [vx, vy], 0, vx, rfl, rfl, hT, g0, ?_⟩
        refine ⟨_, rfl, _, _, rfl, rfl, vx, dx, _, _, rfl, .dp hx, _, rfl, ?_⟩
        have e : changeD (.tuple [dx, dy]) size = (wholeD dx 0 (size - 1) && worthD dy) := rfl
        rw [e] at q
        cases hw : wholeD dx 0 (size - 1) with
        | true =>
          rw [hw] at q
          refine iteT ?_
          refine ⟨_, rfl, a, [vx, vy], 1, vy, rfl, rfl, hT, g1, ?_⟩
          exact ⟨vy, dy, rfl, .dp hy, q⟩
        | false =>
          rw [hw] at q
          exact iteF q
      · rw [decide_eq_false hl]
        refine iteT ?_
        have e : changeD (.tuple ds) size = false := by
          match ds, hlen with
          | [], _ => rfl
          | [x], _ => rfl
          | [x, y], h => exact absurd h hl
          | x :: y :: z :: r, _ => rfl
        rw [e] at q
        exact q
    | int x => exact iteT (iteT q)
    | bool x => exact iteT (iteT q)
    | none => exact iteT (iteT q)
    | str x => exact iteT (iteT q)
    | list x => exact iteT (iteT q)
    | dict x => exact iteT (iteT q)
end
end Kx
set_option maxHeartbeats 1000000
namespace Kx
open PySem PySem.Spec PyProof.Rows L2 Gd
section
variable {P : Program} {w : World} {K : PySem.W.Frag} {mg : Str → Option Value} {base : Heap}
def spChanges (K : PySem.W.Frag) : Sp := fun vs H Q _ => ∃ (v : V) (d : PyData) (size : Int), vs = [v, .int size] ∧ D1 K H v d ∧ ∀ H', Same H H' → Q (.bl (changesD d size)) H'
theorem not_seq {d : PyData} {size : Int} (h : isSeqD d = false) : changesD d size = false := by
  cases d
  all_goals first
    | rfl
    | cases h
theorem seq_of {d : PyData} (h : isSeqD d = true) : (∃ ds, d = .list ds) ∨ ∃ ds, d = .tuple ds := by
  cases d
  all_goals first
    | exact .inl ⟨_, rfl⟩
    | exact .inr ⟨_, rfl⟩
    | cases h
def chs (ds : List PyData) (size : Int) : Bool := decide (ds.length ≤ 20) && ds.all fun d => changeD d size
theorem chs_long {ds : List PyData} {size : Int} (h : ¬ ds.length ≤ 20) : chs ds size = false := by
  unfold chs
  rw [decide_eq_false h, Bool.false_and]
theorem chs_all {ds : List PyData} {size : Int} (h : ds.length ≤ 20) : chs ds size = ds.all fun d => changeD d size := by
  unfold chs
  rw [decide_eq_true h, Bool.true_and]
theorem take_map {ds : List PyData} {size : Int} {i : Nat} {d : PyData} (h : ds[i]? = some d) :
    (ds.take (i + 1)).map (fun d => V.bl (changeD d size)) = (ds.take i).map (fun d => V.bl (changeD d size)) ++ [V.bl (changeD d size)] := by
  rw [List.take_add_one, h, List.map_append]
  rfl
theorem ok_changes (T : Txt K mg) (c__is_change : CalG P w K mg base 3 "_is_change" (spChange K)) (D : DefAt K mg "is_changes" s_is_changes ["thing", "size"]) :
    CalG P w K mg base 4 "is_changes" (spChanges K) := by
  refine D.cal sc_is_changes (fun vs H Q E h => ?_) (fun f cdv A outer s H vs Q E hG hr h => ?_)
  · obtain ⟨v, d, size, rfl, _⟩ := h
    rfl
  · obtain ⟨v, d, size, rfl, hd, q⟩ := h
    cases hs : isSeqD d with
    | false =>
      refine ⟨_, (pss_cons (ps_if (PW.pt (pw_or (pt_not (pt_val (pe_callB call_isiT (by rfl) T.b_isinstance boot_isinstance_ (pa_cons (pv 0) (pa_cons (pe_tup (pa_cons (pe_bltn (v := .ty "list") (by rfl) T.t_list boot_list_ rfl) (pa_cons (pe_bltn (v := .ty "tuple") (by rfl) T.t_tuple boot_tuple_ rfl) pa_nil))) pa_nil))))) (pw_or1 (pt_cmpR op_gt (pe_callB call_len (by rfl) T.b_len boot_len_ (pa_cons (pv 0) pa_nil)) (pe_gi rfl T.g_MOST_CHANGES) (nomark _)))))
          (pss_one (ps_ret pe_bl)) pss_nil)
      (pss_one (ps_ret (pe_callB (cr_all rfl) (by rfl) T.b_all boot_all_ (pa_cons (pe_lc (own := [("change", 2)]) (g := gName 2) (tt := tYes) rfl sc_is_changes.nd (pi_list (pv 0)) (blkOk_by (own := [("change", 2)]) (N := ["thing", "size", "change"]) (sc := defScope s_is_changes) (by decide +kernel)) (fun _ _ _ _ _ => pg_name (i := 2) sc_is_changes.nd rfl (Or.inl rfl)) (fun _ _ _ _ _ => pts_nil) (fun _ _ _ _ _ => (pe_g c__is_change hG (hr.mono (by decide)) (by rfl) (pa_cons (pv 2) (pa_cons (pv 1) pa_nil))))) pa_nil))))), ?_⟩
      refine ⟨_, rfl, (by show 2 ≤ sizeLine; decide), fun p hp => ?_⟩
      have sm : Same H (upd H p (.tup [.ty "list", .ty "tuple"])) := same_new hp
      have ks := kSeq (K := K) d
      rw [hs] at ks
      have z := q _ sm
      rw [not_seq hs] at z
      exact ⟨v, p, _, _, _, false, rfl, upd_same, clsSeq, tyD (d1Same sm hd), ks, _, rfl, iteT (iteT z)⟩
    | true =>
      rcases seq_of hs with ⟨ds, rfl⟩ | ⟨ds, rfl⟩
      · obtain ⟨a, xs, rfl, hL, hds⟩ := d1Lst hd
        have q : ∀ H', Same H H' → Q (.bl (chs ds size)) H' := q
        refine ⟨_, (pss_cons (ps_if (PW.pt (pw_or (pt_not (pt_val (pe_callB call_isiT (by rfl) T.b_isinstance boot_isinstance_ (pa_cons (pv 0) (pa_cons (pe_tup (pa_cons (pe_bltn (v := .ty "list") (by rfl) T.t_list boot_list_ rfl) (pa_cons (pe_bltn (v := .ty "tuple") (by rfl) T.t_tuple boot_tuple_ rfl) pa_nil))) pa_nil))))) (pw_or1 (pt_cmpR op_gt (pe_callB call_len (by rfl) T.b_len boot_len_ (pa_cons (pv 0) pa_nil)) (pe_gi rfl T.g_MOST_CHANGES) (nomark _)))))
          (pss_one (ps_ret pe_bl)) pss_nil)
      (pss_one (ps_ret (pe_callB (cr_all rfl) (by rfl) T.b_all boot_all_ (pa_cons (pe_lc (own := [("change", 2)]) (g := gName 2) (tt := tYes) rfl sc_is_changes.nd (pi_list (pv 0)) (blkOk_by (own := [("change", 2)]) (N := ["thing", "size", "change"]) (sc := defScope s_is_changes) (by decide +kernel)) (fun _ _ _ _ _ => pg_name (i := 2) sc_is_changes.nd rfl (Or.inl rfl)) (fun _ _ _ _ _ => pts_nil) (fun _ _ _ _ _ => (pe_g c__is_change hG (hr.mono (by decide)) (by rfl) (pa_cons (pv 2) (pa_cons (pv 1) pa_nil))))) pa_nil))))), ?_⟩
        refine ⟨_, rfl, (by show 2 ≤ sizeLine; decide), fun p hp => ?_⟩
        have sm : Same H (upd H p (.tup [.ty "list", .ty "tuple"])) := same_new hp
        have hp1 : (upd H p (.tup [.ty "list", .ty "tuple"])) p = some (.tup [.ty "list", .ty "tuple"]) := upd_same
        generalize upd H p (.tup [.ty "list", .ty "tuple"]) = H1 at *
        have hL1 := Same.seq sm hL
        have ks := kSeq (K := K) (.list ds)
        have ty := tyD (d1Same sm hd)
        have len := dpLen hds
        refine ⟨_, p, _, _, _, true, rfl, hp1, clsSeq, ty, ks, _, rfl, iteF ?_⟩
        refine ⟨_, rfl, .ref a, xs.length, rfl, .inl ⟨_, hL1, rfl⟩, _, _, rfl, rfl, _, rfl, ?_⟩
        by_cases h2 : ds.length ≤ 20
        · have d2 : decide (((xs.length : Nat) : Int) > 20) = false := decide_eq_false (by omega)
          rw [d2]
          refine iteF ?_
          refine ⟨_, rfl, a, rfl, ⟨_, hL1⟩, fun D hD => ?_⟩
          refine lc_list (K := K) (a := a) (xs := xs) (fun i H' => Same H1 H' ∧ H' D = some (.lst ((ds.take i).map fun d => V.bl (changeD d size)))) ⟨same_new hD, upd_same⟩
            (fun i H' _ hP => Same.seq hP.1 hL1) (fun i x H' hi hP => ?_) (fun H' hP => ?_)
          · obtain ⟨dx, hdx, hx⟩ := dpGet hds hi
            refine ⟨rfl, ?_⟩
            refine ⟨x, rfl, _, rfl, x, dx, size, rfl, .dp (dpSame (sm.trans hP.1) hx), _, hP.2, ?_, ?_, ?_⟩
            · rw [List.length_map, List.length_take]
              exact Nat.lt_of_le_of_lt (Nat.min_le_right _ _) (small1000 (by omega))
            · intro c o hc
              have h3 := hP.1 c o hc
              rw [upd_ne (ne_of_none hc hD)]
              exact h3
            · rw [upd_same, take_map hdx]
          · have hD2 := hP.2
            have e3 : ds.take xs.length = ds := List.take_of_length_le (by omega)
            have e4 : (ds.map fun d => V.bl (changeD d size)) = (ds.map fun d => changeD d size).map V.bl := by
              rw [List.map_map]
              rfl
            rw [e3, e4] at hD2
            refine ⟨D, ds.map (fun d => changeD d size), rfl, SqL.of hD2, ?_⟩
            have e : (ds.map fun d => changeD d size).all id = chs ds size := by
              rw [chs_all h2, List.all_map]
              rfl
            rw [e]
            exact q _ (sm.trans hP.1)
        · have d2 : decide (((xs.length : Nat) : Int) > 20) = true := decide_eq_true (by omega)
          rw [d2]
          refine iteT ?_
          have z := q _ sm
          rw [chs_long h2] at z
          exact z
      · obtain ⟨a, xs, rfl, hL, hds⟩ := d1Tup hd
        have q : ∀ H', Same H H' → Q (.bl (chs ds size)) H' := q
        refine ⟨_, (pss_cons (ps_if (PW.pt (pw_or (pt_not (pt_val (pe_callB call_isiT (by rfl) T.b_isinstance boot_isinstance_ (pa_cons (pv 0) (pa_cons (pe_tup (pa_cons (pe_bltn (v := .ty "list") (by rfl) T.t_list boot_list_ rfl) (pa_cons (pe_bltn (v := .ty "tuple") (by rfl) T.t_tuple boot_tuple_ rfl) pa_nil))) pa_nil))))) (pw_or1 (pt_cmpR op_gt (pe_callB call_len (by rfl) T.b_len boot_len_ (pa_cons (pv 0) pa_nil)) (pe_gi rfl T.g_MOST_CHANGES) (nomark _)))))
          (pss_one (ps_ret pe_bl)) pss_nil)
      (pss_one (ps_ret (pe_callB (cr_all rfl) (by rfl) T.b_all boot_all_ (pa_cons (pe_lc (own := [("change", 2)]) (g := gName 2) (tt := tYes) rfl sc_is_changes.nd (pi_tup (pv 0)) (blkOk_by (own := [("change", 2)]) (N := ["thing", "size", "change"]) (sc := defScope s_is_changes) (by decide +kernel)) (fun _ _ _ _ _ => pg_name (i := 2) sc_is_changes.nd rfl (Or.inl rfl)) (fun _ _ _ _ _ => pts_nil) (fun _ _ _ _ _ => (pe_g c__is_change hG (hr.mono (by decide)) (by rfl) (pa_cons (pv 2) (pa_cons (pv 1) pa_nil))))) pa_nil))))), ?_⟩
        refine ⟨_, rfl, (by show 2 ≤ sizeLine; decide), fun p hp => ?_⟩
        have sm : Same H (upd H p (.tup [.ty "list", .ty "tuple"])) := same_new hp
        have hp1 : (upd H p (.tup [.ty "list", .ty "tuple"])) p = some (.tup [.ty "list", .ty "tuple"]) := upd_same
        generalize upd H p (.tup [.ty "list", .ty "tuple"]) = H1 at *
        have hL1 := same_sqT sm hL
        have ks := kSeq (K := K) (.tuple ds)
        have ty := tyD (d1Same sm hd)
        have len := dpLen hds
        refine ⟨_, p, _, _, _, true, rfl, hp1, clsSeq, ty, ks, _, rfl, iteF ?_⟩
        refine ⟨_, rfl, .ref a, xs.length, rfl, .inr ⟨_, hL1, rfl⟩, _, _, rfl, rfl, _, rfl, ?_⟩
        by_cases h2 : ds.length ≤ 20
        · have d2 : decide (((xs.length : Nat) : Int) > 20) = false := decide_eq_false (by omega)
          rw [d2]
          refine iteF ?_
          refine ⟨_, rfl, a, rfl, ⟨_, hL1⟩, fun D hD => ?_⟩
          refine lc_tup (K := K) (a := a) (xs := xs) (fun i H' => Same H1 H' ∧ H' D = some (.lst ((ds.take i).map fun d => V.bl (changeD d size)))) ⟨same_new hD, upd_same⟩
            (fun i H' _ hP => same_sqT hP.1 hL1) (fun i x H' hi hP => ?_) (fun H' hP => ?_)
          · obtain ⟨dx, hdx, hx⟩ := dpGet hds hi
            refine ⟨rfl, ?_⟩
            refine ⟨x, rfl, _, rfl, x, dx, size, rfl, .dp (dpSame (sm.trans hP.1) hx), _, hP.2, ?_, ?_, ?_⟩
            · rw [List.length_map, List.length_take]
              exact Nat.lt_of_le_of_lt (Nat.min_le_right _ _) (small1000 (by omega))
            · intro c o hc
              have h3 := hP.1 c o hc
              rw [upd_ne (ne_of_none hc hD)]
              exact h3
            · rw [upd_same, take_map hdx]
          · have hD2 := hP.2
            have e3 : ds.take xs.length = ds := List.take_of_length_le (by omega)
            have e4 : (ds.map fun d => V.bl (changeD d size)) = (ds.map fun d => changeD d size).map V.bl := by
              rw [List.map_map]
              rfl
            rw [e3, e4] at hD2
            refine ⟨D, ds.map (fun d => changeD d size), rfl, SqL.of hD2, ?_⟩
            have e : (ds.map fun d => changeD d size).all id = chs ds size := by
              rw [chs_all h2, List.all_map]
              rfl
            rw [e]
            exact q _ (sm.trans hP.1)
        · have d2 : decide (((xs.length : Nat) : Int) > 20) = true := decide_eq_true (by omega)
          rw [d2]
          refine iteT ?_
          have z := q _ sm
          rw [chs_long h2] at z
          exact z

theorem e30 (d : PyData) : wholeD d (1 - 10 ^ (30 : Int).toNat) (10 ^ (30 : Int).toNat - 1) = worthD d := by
  unfold worthD
  have e1 : (1 - 10 ^ (30 : Int).toNat : Int) = -top30 := by decide
  have e2 : (10 ^ (30 : Int).toNat - 1 : Int) = top30 := by decide
  rw [e1, e2]
theorem not_two {es : List PyData} {size : Int} (h : ¬ es.length = 2) : changeD (.tuple es) size = false := by
  match es, h with
  | [], _ => rfl
  | [x], _ => rfl
  | [x, y], h => exact absurd rfl h
  | x :: y :: z :: r, _ => rfl
theorem ok_are (T : Txt K mg) (c__law_is : CalG P w K mg base 1 "_law_is" (spWhole K)) (D : DefAt K mg "_law_are" s__law_are ["_law_thing", "_law_size"]) :
    CalG P w K mg base 2 "_law_are" (spChanges K) := by
  refine D.cal sc__law_are (fun vs H Q E h => ?_) (fun f cdv A outer s H vs Q E hG hr h => ?_)
  · obtain ⟨v, d, size, rfl, _⟩ := h
    rfl
  · obtain ⟨v, d, size, rfl, hd, q⟩ := h
    cases hs : isSeqD d with
    | false =>
      refine ⟨_, (pss_cons (ps_if (PW.pt (pw_or (pt_not (pt_val (pe_callB call_isiT (by rfl) T.b_isinstance boot_isinstance_ (pa_cons (pv 0) (pa_cons (pe_tup (pa_cons (pe_bltn (v := .ty "list") (by rfl) T.t_list boot_list_ rfl) (pa_cons (pe_bltn (v := .ty "tuple") (by rfl) T.t_tuple boot_tuple_ rfl) pa_nil))) pa_nil))))) (pw_or1 (pt_cmpR op_gt (pe_callB call_len (by rfl) T.b_len boot_len_ (pa_cons (pv 0) pa_nil)) pe_int (nomark _)))))
          (pss_one (ps_ret pe_bl)) pss_nil)
      (pss_cons (ps_for PassesOwn.never rfl (pi_list (pv 0)) (pg_name (i := 2) sc__law_are.nd rfl (Or.inl rfl))
          (pss_cons (ps_if (PW.pt (pw_or (pt_not (pt_val (pe_callB call_isi (by rfl) T.b_isinstance boot_isinstance_ (pa_cons (pv 2) (pa_cons (pe_bltn (v := .ty "tuple") (by rfl) T.t_tuple boot_tuple_ rfl) pa_nil))))) (pw_or (pt_cmpR op_ne (pe_callB call_len (by rfl) T.b_len boot_len_ (pa_cons (pv 2) pa_nil)) pe_int (nomark _)) (pw_or1 (pt_not (pt_val (pe_g c__law_is hG (hr.mono (by decide)) (by rfl) (pa_cons (pe_ix ix_tup (pv 2) pe_int (fun _ _ => rfl)) (pa_cons pe_int (pa_cons (pe_op op_sub (pv 1) pe_int) pa_nil))))))))))
              (pss_one (ps_ret pe_bl)) pss_nil)
          (pss_one (ps_if (pt_not (pt_val (pe_g c__law_is hG (hr.mono (by decide)) (by rfl) (pa_cons (pe_ix ix_tup (pv 2) pe_int (fun _ _ => rfl)) (pa_cons (pe_op op_sub pe_int (pe_op op_pow pe_int pe_int)) (pa_cons (pe_op op_sub (pe_op op_pow pe_int pe_int) pe_int) pa_nil))))))
              (pss_one (ps_ret pe_bl)) pss_nil))))
      (pss_one (ps_ret pe_bl)))), ?_⟩
      refine ⟨_, rfl, (by show 2 ≤ sizeLine; decide), fun p hp => ?_⟩
      have sm : Same H (upd H p (.tup [.ty "list", .ty "tuple"])) := same_new hp
      have ks := kSeq (K := K) d
      rw [hs] at ks
      have z := q _ sm
      rw [not_seq hs] at z
      exact ⟨v, p, _, _, _, false, rfl, upd_same, clsSeq, tyD (d1Same sm hd), ks, _, rfl, iteT (iteT z)⟩
    | true =>
      rcases seq_of hs with ⟨ds, rfl⟩ | ⟨ds, rfl⟩
      · obtain ⟨a, xs, rfl, hL, hds⟩ := d1Lst hd
        have q : ∀ H', Same H H' → Q (.bl (chs ds size)) H' := q
        refine ⟨_, (pss_cons (ps_if (PW.pt (pw_or (pt_not (pt_val (pe_callB call_isiT (by rfl) T.b_isinstance boot_isinstance_ (pa_cons (pv 0) (pa_cons (pe_tup (pa_cons (pe_bltn (v := .ty "list") (by rfl) T.t_list boot_list_ rfl) (pa_cons (pe_bltn (v := .ty "tuple") (by rfl) T.t_tuple boot_tuple_ rfl) pa_nil))) pa_nil))))) (pw_or1 (pt_cmpR op_gt (pe_callB call_len (by rfl) T.b_len boot_len_ (pa_cons (pv 0) pa_nil)) pe_int (nomark _)))))
          (pss_one (ps_ret pe_bl)) pss_nil)
      (pss_cons (ps_for PassesOwn.never rfl (pi_list (pv 0)) (pg_name (i := 2) sc__law_are.nd rfl (Or.inl rfl))
          (pss_cons (ps_if (PW.pt (pw_or (pt_not (pt_val (pe_callB call_isi (by rfl) T.b_isinstance boot_isinstance_ (pa_cons (pv 2) (pa_cons (pe_bltn (v := .ty "tuple") (by rfl) T.t_tuple boot_tuple_ rfl) pa_nil))))) (pw_or (pt_cmpR op_ne (pe_callB call_len (by rfl) T.b_len boot_len_ (pa_cons (pv 2) pa_nil)) pe_int (nomark _)) (pw_or1 (pt_not (pt_val (pe_g c__law_is hG (hr.mono (by decide)) (by rfl) (pa_cons (pe_ix ix_tup (pv 2) pe_int (fun _ _ => rfl)) (pa_cons pe_int (pa_cons (pe_op op_sub (pv 1) pe_int) pa_nil))))))))))
              (pss_one (ps_ret pe_bl)) pss_nil)
          (pss_one (ps_if (pt_not (pt_val (pe_g c__law_is hG (hr.mono (by decide)) (by rfl) (pa_cons (pe_ix ix_tup (pv 2) pe_int (fun _ _ => rfl)) (pa_cons (pe_op op_sub pe_int (pe_op op_pow pe_int pe_int)) (pa_cons (pe_op op_sub (pe_op op_pow pe_int pe_int) pe_int) pa_nil))))))
              (pss_one (ps_ret pe_bl)) pss_nil))))
      (pss_one (ps_ret pe_bl)))), ?_⟩
        refine ⟨_, rfl, (by show 2 ≤ sizeLine; decide), fun p hp => ?_⟩
        have sm : Same H (upd H p (.tup [.ty "list", .ty "tuple"])) := same_new hp
        have hp1 : (upd H p (.tup [.ty "list", .ty "tuple"])) p = some (.tup [.ty "list", .ty "tuple"]) := upd_same
        generalize upd H p (.tup [.ty "list", .ty "tuple"]) = H1 at *
        have hL1 := Same.seq sm hL
        have ks := kSeq (K := K) (.list ds)
        have ty := tyD (d1Same sm hd)
        have len := dpLen hds
        refine ⟨_, p, _, _, _, true, rfl, hp1, clsSeq, ty, ks, _, rfl, iteF ?_⟩
        refine ⟨_, rfl, .ref a, xs.length, rfl, .inl ⟨_, hL1, rfl⟩, _, _, rfl, rfl, _, rfl, ?_⟩
        by_cases h2 : ds.length ≤ 20
        · have d2 : decide (((xs.length : Nat) : Int) > 20) = false := decide_eq_false (by omega)
          rw [d2]
          refine iteF ?_
          refine ⟨_, rfl, a, rfl, ⟨_, hL1⟩, ?_⟩
          refine for_list (K := K) (a := a) (xs := xs) (fun i σ H' => H' = H1 ∧ ((ds.take i).all fun d => changeD d size) = true ∧ ∃ y, σ = [some (.ref a), some (.int size), y]) ⟨rfl, rfl, none, rfl⟩
            (fun i σ H' _ hP => hP.1 ▸ hL1) (fun i x σ H' hi hP => ?_) (fun σ H' hP => ?_)
          · obtain ⟨rfl, hall, y, rfl⟩ := hP
            obtain ⟨dx, hdx, hx0⟩ := dpGet hds hi
            have hx := dpSame sm hx0
            have bad : changeD dx size = false → Q (.bl false) H' := fun hf => by
              have z := q _ sm
              have e : chs ds size = false := by
                rw [chs_all h2]
                refine Bool.eq_false_iff.mpr fun z => ?_
                have z2 := List.all_eq_true.mp z dx (List.mem_of_getElem? hdx)
                rw [hf] at z2
                cases z2
              rw [e] at z
              exact z
            have good : changeD dx size = true → ((ds.take (i + 1)).all fun d => changeD d size) = true := fun ht => by
              rw [List.take_add_one, hdx, List.all_append, hall, Bool.true_and]
              show (changeD dx size && true) = true
              rw [ht]
              rfl
            have tyx := tyD (K := K) (.dp hx)
            refine ⟨_, rfl, x, .ty "tuple", _, .type "tuple", _, rfl, .ty _, tyx, kTup dx, _, rfl, ?_⟩
            cases dx with
            | tuple es =>
              obtain ⟨a2, ys, rfl, hT, hes⟩ := d1Tup (.dp hx)
              refine iteF ⟨_, rfl, .ref a2, ys.length, rfl, .inr ⟨_, hT, rfl⟩, rfl, _, rfl, ?_⟩
              rw [len_test]
              by_cases hl : ys.length = 2
              · rw [decide_eq_true hl]
                obtain ⟨vx, vy, rfl⟩ := two_of hl
                obtain ⟨d3, d4, rfl, hx3, hx4⟩ := dp_two hes
                have g0 : atI [vx, vy] (0 : Int) = some vx := rfl
                have g1 : atI [vx, vy] (1 : Int) = some vy := rfl
                refine iteF ?_
                refine ⟨_, rfl, a2, [vx, vy], 0, vx, rfl, rfl, hT, g0, ?_⟩
                refine ⟨_, rfl, _, _, rfl, rfl, vx, d3, _, _, rfl, .dp hx3, _, rfl, ?_⟩
                have e : changeD (.tuple [d3, d4]) size = (wholeD d3 0 (size - 1) && worthD d4) := rfl
                cases hw : wholeD d3 0 (size - 1) with
                | false =>
                  refine iteT (bad ?_)
                  rw [e, hw]
                  rfl
                | true =>
                  refine iteF ?_
                  refine ⟨_, rfl, a2, [vx, vy], 1, vy, rfl, rfl, hT, g1, ?_⟩
                  refine ⟨_, _, rfl, rfl, ⟨by decide, by decide, by decide⟩, _, _, rfl, rfl, _, _, rfl, rfl, ⟨by decide, by decide, by decide⟩, _, _, rfl, rfl, vy, d4, _, _, rfl, .dp hx4, _, rfl, ?_⟩
                  rw [e30]
                  cases hw2 : worthD d4 with
                  | false =>
                    refine iteT (bad ?_)
                    rw [e, hw, hw2]
                    rfl
                  | true =>
                    refine iteF ⟨rfl, good ?_, _, rfl⟩
                    rw [e, hw, hw2]
                    rfl
              · rw [decide_eq_false hl]
                refine iteT (iteT (bad ?_))
                have hel := dpLen hes
                exact not_two (by omega)
            | int x => exact iteT (iteT (bad rfl))
            | bool x => exact iteT (iteT (bad rfl))
            | none => exact iteT (iteT (bad rfl))
            | str x => exact iteT (iteT (bad rfl))
            | list x => exact iteT (iteT (bad rfl))
            | dict x => exact iteT (iteT (bad rfl))
          · obtain ⟨rfl, hall, y, rfl⟩ := hP
            have e3 : ds.take xs.length = ds := List.take_of_length_le (by omega)
            rw [e3] at hall
            have z := q _ sm
            rw [chs_all h2, hall] at z
            exact z
        · have d2 : decide (((xs.length : Nat) : Int) > 20) = true := decide_eq_true (by omega)
          rw [d2]
          refine iteT ?_
          have z := q _ sm
          rw [chs_long h2] at z
          exact z
      · obtain ⟨a, xs, rfl, hL, hds⟩ := d1Tup hd
        have q : ∀ H', Same H H' → Q (.bl (chs ds size)) H' := q
        refine ⟨_, (pss_cons (ps_if (PW.pt (pw_or (pt_not (pt_val (pe_callB call_isiT (by rfl) T.b_isinstance boot_isinstance_ (pa_cons (pv 0) (pa_cons (pe_tup (pa_cons (pe_bltn (v := .ty "list") (by rfl) T.t_list boot_list_ rfl) (pa_cons (pe_bltn (v := .ty "tuple") (by rfl) T.t_tuple boot_tuple_ rfl) pa_nil))) pa_nil))))) (pw_or1 (pt_cmpR op_gt (pe_callB call_len (by rfl) T.b_len boot_len_ (pa_cons (pv 0) pa_nil)) pe_int (nomark _)))))
          (pss_one (ps_ret pe_bl)) pss_nil)
      (pss_cons (ps_for PassesOwn.never rfl (pi_tup (pv 0)) (pg_name (i := 2) sc__law_are.nd rfl (Or.inl rfl))
          (pss_cons (ps_if (PW.pt (pw_or (pt_not (pt_val (pe_callB call_isi (by rfl) T.b_isinstance boot_isinstance_ (pa_cons (pv 2) (pa_cons (pe_bltn (v := .ty "tuple") (by rfl) T.t_tuple boot_tuple_ rfl) pa_nil))))) (pw_or (pt_cmpR op_ne (pe_callB call_len (by rfl) T.b_len boot_len_ (pa_cons (pv 2) pa_nil)) pe_int (nomark _)) (pw_or1 (pt_not (pt_val (pe_g c__law_is hG (hr.mono (by decide)) (by rfl) (pa_cons (pe_ix ix_tup (pv 2) pe_int (fun _ _ => rfl)) (pa_cons pe_int (pa_cons (pe_op op_sub (pv 1) pe_int) pa_nil))))))))))
              (pss_one (ps_ret pe_bl)) pss_nil)
          (pss_one (ps_if (pt_not (pt_val (pe_g c__law_is hG (hr.mono (by decide)) (by rfl) (pa_cons (pe_ix ix_tup (pv 2) pe_int (fun _ _ => rfl)) (pa_cons (pe_op op_sub pe_int (pe_op op_pow pe_int pe_int)) (pa_cons (pe_op op_sub (pe_op op_pow pe_int pe_int) pe_int) pa_nil))))))
              (pss_one (ps_ret pe_bl)) pss_nil))))
      (pss_one (ps_ret pe_bl)))), ?_⟩
        refine ⟨_, rfl, (by show 2 ≤ sizeLine; decide), fun p hp => ?_⟩
        have sm : Same H (upd H p (.tup [.ty "list", .ty "tuple"])) := same_new hp
        have hp1 : (upd H p (.tup [.ty "list", .ty "tuple"])) p = some (.tup [.ty "list", .ty "tuple"]) := upd_same
        generalize upd H p (.tup [.ty "list", .ty "tuple"]) = H1 at *
        have hL1 := same_sqT sm hL
        have ks := kSeq (K := K) (.tuple ds)
        have ty := tyD (d1Same sm hd)
        have len := dpLen hds
        refine ⟨_, p, _, _, _, true, rfl, hp1, clsSeq, ty, ks, _, rfl, iteF ?_⟩
        refine ⟨_, rfl, .ref a, xs.length, rfl, .inr ⟨_, hL1, rfl⟩, _, _, rfl, rfl, _, rfl, ?_⟩
        by_cases h2 : ds.length ≤ 20
        · have d2 : decide (((xs.length : Nat) : Int) > 20) = false := decide_eq_false (by omega)
          rw [d2]
          refine iteF ?_
          refine ⟨_, rfl, a, rfl, ⟨_, hL1⟩, ?_⟩
          refine for_tup (K := K) (a := a) (xs := xs) (fun i σ H' => H' = H1 ∧ ((ds.take i).all fun d => changeD d size) = true ∧ ∃ y, σ = [some (.ref a), some (.int size), y]) ⟨rfl, rfl, none, rfl⟩
            (fun i σ H' _ hP => hP.1 ▸ hL1) (fun i x σ H' hi hP => ?_) (fun σ H' hP => ?_)
          · obtain ⟨rfl, hall, y, rfl⟩ := hP
            obtain ⟨dx, hdx, hx0⟩ := dpGet hds hi
            have hx := dpSame sm hx0
            have bad : changeD dx size = false → Q (.bl false) H' := fun hf => by
              have z := q _ sm
              have e : chs ds size = false := by
                rw [chs_all h2]
                refine Bool.eq_false_iff.mpr fun z => ?_
                have z2 := List.all_eq_true.mp z dx (List.mem_of_getElem? hdx)
                rw [hf] at z2
                cases z2
              rw [e] at z
              exact z
            have good : changeD dx size = true → ((ds.take (i + 1)).all fun d => changeD d size) = true := fun ht => by
              rw [List.take_add_one, hdx, List.all_append, hall, Bool.true_and]
              show (changeD dx size && true) = true
              rw [ht]
              rfl
            have tyx := tyD (K := K) (.dp hx)
            refine ⟨_, rfl, x, .ty "tuple", _, .type "tuple", _, rfl, .ty _, tyx, kTup dx, _, rfl, ?_⟩
            cases dx with
            | tuple es =>
              obtain ⟨a2, ys, rfl, hT, hes⟩ := d1Tup (.dp hx)
              refine iteF ⟨_, rfl, .ref a2, ys.length, rfl, .inr ⟨_, hT, rfl⟩, rfl, _, rfl, ?_⟩
              rw [len_test]
              by_cases hl : ys.length = 2
              · rw [decide_eq_true hl]
                obtain ⟨vx, vy, rfl⟩ := two_of hl
                obtain ⟨d3, d4, rfl, hx3, hx4⟩ := dp_two hes
                have g0 : atI [vx, vy] (0 : Int) = some vx := rfl
                have g1 : atI [vx, vy] (1 : Int) = some vy := rfl
                refine iteF ?_
                refine ⟨_, rfl, a2, [vx, vy], 0, vx, rfl, rfl, hT, g0, ?_⟩
                refine ⟨_, rfl, _, _, rfl, rfl, vx, d3, _, _, rfl, .dp hx3, _, rfl, ?_⟩
                have e : changeD (.tuple [d3, d4]) size = (wholeD d3 0 (size - 1) && worthD d4) := rfl
                cases hw : wholeD d3 0 (size - 1) with
                | false =>
                  refine iteT (bad ?_)
                  rw [e, hw]
                  rfl
                | true =>
                  refine iteF ?_
                  refine ⟨_, rfl, a2, [vx, vy], 1, vy, rfl, rfl, hT, g1, ?_⟩
                  refine ⟨_, _, rfl, rfl, ⟨by decide, by decide, by decide⟩, _, _, rfl, rfl, _, _, rfl, rfl, ⟨by decide, by decide, by decide⟩, _, _, rfl, rfl, vy, d4, _, _, rfl, .dp hx4, _, rfl, ?_⟩
                  rw [e30]
                  cases hw2 : worthD d4 with
                  | false =>
                    refine iteT (bad ?_)
                    rw [e, hw, hw2]
                    rfl
                  | true =>
                    refine iteF ⟨rfl, good ?_, _, rfl⟩
                    rw [e, hw, hw2]
                    rfl
              · rw [decide_eq_false hl]
                refine iteT (iteT (bad ?_))
                have hel := dpLen hes
                exact not_two (by omega)
            | int x => exact iteT (iteT (bad rfl))
            | bool x => exact iteT (iteT (bad rfl))
            | none => exact iteT (iteT (bad rfl))
            | str x => exact iteT (iteT (bad rfl))
            | list x => exact iteT (iteT (bad rfl))
            | dict x => exact iteT (iteT (bad rfl))
          · obtain ⟨rfl, hall, y, rfl⟩ := hP
            have e3 : ds.take xs.length = ds := List.take_of_length_le (by omega)
            rw [e3] at hall
            have z := q _ sm
            rw [chs_all h2, hall] at z
            exact z
        · have d2 : decide (((xs.length : Nat) : Int) > 20) = true := decide_eq_true (by omega)
          rw [d2]
          refine iteT ?_
          have z := q _ sm
          rw [chs_long h2] at z
          exact z
end
end Kx
set_option maxHeartbeats 1000000
namespace Kx
open PySem PySem.Spec PyProof.Rows L2 Gd
section
variable {P : Program} {w : World} {K : PySem.W.Frag} {mg : Str → Option Value} {base : Heap}
def spNum : Sp := fun vs H Q _ => ∃ b : Addr, vs = [.ref b] ∧ BoxAt H b ∧ ∀ (n : Int) (H' : Hp), Big n → BoxAt H' b → Kp b H H' → Q (.int n) H'
theorem ok_num (c__law_take : CalG P w K mg base 1 "_law_take" spTake) (D : DefAt K mg "_law_worth" s__law_worth ["_law_box_here"]) :
    CalG P w K mg base 2 "_law_worth" spNum := by
  refine D.cal sc__law_worth (fun vs H Q E h => ?_) (fun f cdv A outer s H vs Q E hG hr h => ?_)
  · obtain ⟨b, rfl, _⟩ := h
    rfl
  · obtain ⟨b, rfl, hB, q⟩ := h
    refine ⟨_, (pss_cons (ps_if (pt_cmpR op_eq (pe_g c__law_take hG (hr.mono (by decide)) (by rfl) (pa_cons (pv 0) (pa_cons pe_int pa_nil))) pe_int (nomark _))
          (pss_one (ps_ret (pe_ix ix_list (pe_lst (pa_cons (pe_op op_sub (pe_op op_pow pe_int pe_int) pe_int) (pa_cons (pe_op op_sub pe_int (pe_op op_pow pe_int pe_int)) (pa_cons pe_int pa_nil)))) (pe_g c__law_take hG (hr.mono (by decide)) (by rfl) (pa_cons (pv 0) (pa_cons pe_int pa_nil))) (fun _ _ => rfl)))) pss_nil)
      (pss_one (ps_ret (pe_op op_sub (pe_g c__law_take hG (hr.mono (by decide)) (by rfl) (pa_cons (pv 0) (pa_cons pe_int pa_nil))) pe_int)))), ?_⟩
    refine ⟨_, rfl, b, 5, rfl, hB, by decide, by decide, fun d H1 d0 d1 hB1 k1 => ?_⟩
    refine ⟨rfl, _, rfl, ite2 (fun _ => ?_) fun _ => ?_⟩
    · refine ⟨_, _, rfl, rfl, ⟨by decide, by decide, by decide⟩, _, _, rfl, rfl, _, _, rfl, rfl, ⟨by decide, by decide, by decide⟩, _, _, rfl, rfl, (by show 3 ≤ sizeLine; decide), fun l hl => ?_⟩
      refine ⟨_, rfl, b, 3, rfl, hB1.upd hl, by decide, by decide, fun d2 H3 e0 e1 hB3 k3 => ?_⟩
      have hL := (k3 l (hB1.ne hl)).trans upd_same
      obtain ⟨v, hv, hat⟩ := pickL [.int (10 ^ (30 : Int).toNat - 1), .int (1 - 10 ^ (30 : Int).toNat), .int 0] e0 (by show d2 < ((3 : Nat) : Int); omega)
      have hn : ∃ n, v = .int n ∧ Big n := by
        simp only [List.mem_cons, List.not_mem_nil, or_false] at hv
        rcases hv with rfl | rfl | rfl
        all_goals exact ⟨_, rfl, by decide, by decide⟩
      obtain ⟨n, rfl, hn⟩ := hn
      exact ⟨l, _, d2, _, rfl, rfl, SqL.of hL, hat, q n H3 hn hB3 ((kp_of k1).trans ((Kp.refl.upd hl).trans (kp_of k3)))⟩
    · refine ⟨_, rfl, b, 41, rfl, hB1, by decide, by decide, fun d2 H2 e0 e1 hB2 k2 => ?_⟩
      refine ⟨_, _, rfl, rfl, q _ H2 ?_ hB2 ((kp_of k1).trans (kp_of k2))⟩
      have hq : (10 : Int) ^ 40 = 10000000000000000000000000000000000000000 := by decide
      unfold Big
      rw [hq]
      constructor <;> omega
def spOther : Sp := fun vs H Q _ => ∃ (b t : Addr) (p n size : Int), vs = [.ref b, .ref t, .int size] ∧ BoxAt H b ∧ H t = some (.tup [.int p, .int n]) ∧ Big p ∧ Big n ∧ 1 ≤ size ∧ size ≤ 16 ∧
  ∀ (v : V) (d : PyData) (H' : Hp), Da H' (Nw H b) v d → Okd d 2000 3 → BoxAt H' b → Kp b H H' → Q v H'
theorem big_small {n : Int} (h0 : -100 ≤ n) (h1 : n ≤ 100) : Big n := by
  have hq : (10 : Int) ^ 40 = 10000000000000000000000000000000000000000 := by decide
  unfold Big
  rw [hq]
  constructor <;> omega
theorem mem1 {α : Type} {P : α → Prop} {x : α} (h : P x) : ∀ y ∈ [x], P y := by
  intro y hy
  rw [List.mem_singleton.mp hy]
  exact h
theorem mem2 {α : Type} {P : α → Prop} {x z : α} (h : P x) (h2 : P z) : ∀ y ∈ [x, z], P y := by
  intro y hy
  simp only [List.mem_cons, List.not_mem_nil, or_false] at hy
  rcases hy with rfl | rfl
  · exact h
  · exact h2
theorem mem3 {α : Type} {P : α → Prop} {x z u : α} (h : P x) (h2 : P z) (h3 : P u) : ∀ y ∈ [x, z, u], P y := by
  intro y hy
  simp only [List.mem_cons, List.not_mem_nil, or_false] at hy
  rcases hy with rfl | rfl | rfl
  · exact h
  · exact h2
  · exact h3
theorem ok_other (c__law_take : CalG P w K mg base 1 "_law_take" spTake) (D : DefAt K mg "_law_other" s__law_other ["_law_box_here", "_law_change", "_law_size"]) :
    CalG P w K mg base 2 "_law_other" spOther := by
  refine D.cal sc__law_other (fun vs H Q E h => ?_) (fun f cdv A outer s H vs Q E hG hr h => ?_)
  · obtain ⟨b, t, p, n, size, rfl, _⟩ := h
    rfl
  · obtain ⟨b, t, p, n, size, rfl, hB, ht, hp, hn, z0, z1, q⟩ := h
    refine ⟨_, (pss_cons (ps_asg (pv 1) (pg_tup (by rfl) (pgs_cons (pg_name (i := 3) sc__law_other.nd rfl (Or.inl rfl)) (pgs_cons (pg_name (i := 4) sc__law_other.nd rfl (Or.inl rfl)) pgs_nil))))
      (pss_cons (ps_set (i := 5) sc__law_other.nd rfl (Or.inl rfl) (pe_ix ix_list (pe_lst (pa_cons pe_non (pa_cons pe_bl (pa_cons pe_bl (pa_cons pe_str (pa_cons (pe_lst (pa_cons pe_int pa_nil)) (pa_cons (pe_tup (pa_cons pe_int pa_nil)) (pa_cons (pe_op op_pow pe_int pe_int) (pa_cons (pe_op op_sub pe_int (pe_op op_pow pe_int pe_int)) (pa_cons (pe_op op_pow pe_int pe_int) (pa_cons (pe_un un_neg pe_int) (pa_cons (pv 2) (pa_cons (pe_op op_sub (pv 2) pe_int) pa_nil))))))))))))) (pe_g c__law_take hG (hr.mono (by decide)) (by rfl) (pa_cons (pv 0) (pa_cons pe_int pa_nil))) (fun _ _ => rfl)))
      (pss_cons (ps_set (i := 6) sc__law_other.nd rfl (Or.inl rfl) (pe_lst (pa_cons (pe_tup (pa_cons (pv 5) (pa_cons (pv 4) pa_nil))) (pa_cons (pe_tup (pa_cons (pv 3) (pa_cons (pv 5) pa_nil))) (pa_cons (pe_lst (pa_cons (pv 3) (pa_cons (pv 4) pa_nil))) (pa_cons (pe_tup (pa_cons (pv 3) pa_nil)) (pa_cons (pe_tup (pa_cons (pv 3) (pa_cons (pv 4) (pa_cons (pv 4) pa_nil)))) (pa_cons (pv 5) (pa_cons (pe_tup (pa_cons (pv 4) (pa_cons (pv 3) pa_nil))) (pa_cons (pe_tup pa_nil) pa_nil))))))))))
      (pss_one (ps_ret (pe_ix ix_list (pv 6) (pe_g c__law_take hG (hr.mono (by decide)) (by rfl) (pa_cons (pv 0) (pa_cons pe_int pa_nil))) (fun _ _ => rfl))))))), ?_⟩
    refine ⟨_, rfl, t, [.int p, .int n], rfl, SqT.of ht, rfl, .int p, [.int n], rfl, .int n, [], rfl, rfl, ?_⟩
    refine ⟨(by show 1 ≤ sizeLine; decide), fun p4 n4 => ⟨(by show 1 ≤ sizeLine; decide), fun p5 n5 => ?_⟩⟩
    refine ⟨_, _, rfl, rfl, ⟨by decide, by decide, by decide⟩, _, _, rfl, rfl, ⟨by decide, by decide, by decide⟩, _, _, rfl, rfl, _, _, rfl, rfl, ⟨by decide, by decide, by decide⟩, _, rfl, _, rfl, _, rfl, _, _, rfl, rfl, (by show 12 ≤ sizeLine; decide), fun p6 n6 => ?_⟩
    have B4 := hB.upd (o := .lst [.int 1]) n4
    have B5 := B4.upd (o := .tup [.int 1]) n5
    refine ⟨_, rfl, b, 12, rfl, B5.upd n6, by decide, by decide, fun d1 H1 d0 d1' hB1 k1 => ?_⟩
    have hL := (k1 p6 (B5.ne n6)).trans upd_same
    obtain ⟨v, hv, hat⟩ := pickL [.non, .bl true, .bl false, .str "1", .ref p4, .ref p5, .int (10 ^ (30 : Int).toNat), .int (0 - 10 ^ (30 : Int).toNat), .int (10 ^ (39 : Int).toNat), .int (-1), .int size, .int (size - 1)] d0 (by show d1 < ((12 : Nat) : Int); omega)
    refine ⟨p6, _, d1, v, rfl, rfl, SqL.of hL, hat, ?_⟩
    have K4 : Kp b H (upd H p4 (.lst [.int 1])) := Kp.refl.upd n4
    have K5 := K4.upd (o := .tup [.int 1]) n5
    have K1 : Kp b H H1 := (K5.upd n6).trans (kp_of k1)
    have e4 : H1 p4 = some (.lst [.int 1]) := (k1 p4 (hB.ne n4)).trans (kep (kep upd_same n5) n6)
    have e5 : H1 p5 = some (.tup [.int 1]) := (k1 p5 (B4.ne n5)).trans (kep upd_same n6)
    have hodd : ∃ d, Da H1 (Nw H b) v d ∧ Okd d 200 1 := by
      have b1 : Big 1 := big_small (by decide) (by decide)
      simp only [List.mem_cons, List.not_mem_nil, or_false] at hv
      rcases hv with rfl | rfl | rfl | rfl | rfl | rfl | rfl | rfl | rfl | rfl | rfl | rfl
      · exact ⟨_, .non, okNone.up (by decide) (by decide)⟩
      · exact ⟨_, .bl _, (okBool _).up (by decide) (by decide)⟩
      · exact ⟨_, .bl _, (okBool _).up (by decide) (by decide)⟩
      · exact ⟨_, .str _, okStr (m := 200) (by decide +kernel) |>.up (by decide) (by decide)⟩
      · exact ⟨_, .lst (nw_of Kp.refl n4 (hB.ne n4)) e4 (.cons (.int 1) .nil), (okList (n := 1) (mem1 (okInt b1)) (by decide)).up (by decide) (by decide)⟩
      · exact ⟨_, .tup (nw_of K4 n5 (B4.ne n5)) e5 (.cons (.int 1) .nil), (okTuple (n := 1) (mem1 (okInt b1)) (by decide)).up (by decide) (by decide)⟩
      · exact ⟨_, .int _, (okInt ⟨by decide, by decide⟩).up (by decide) (by decide)⟩
      · exact ⟨_, .int _, (okInt ⟨by decide, by decide⟩).up (by decide) (by decide)⟩
      · exact ⟨_, .int _, (okInt ⟨by decide, by decide⟩).up (by decide) (by decide)⟩
      · exact ⟨_, .int _, (okInt ⟨by decide, by decide⟩).up (by decide) (by decide)⟩
      · exact ⟨_, .int _, (okInt (big_small (by omega) (by omega))).up (by decide) (by decide)⟩
      · exact ⟨_, .int _, (okInt (big_small (by omega) (by omega))).up (by decide) (by decide)⟩
    obtain ⟨d, hda, hok⟩ := hodd
    clear hat hv hL e4 e5 k1
    refine ⟨_, rfl, _, rfl, (by show 2 ≤ sizeLine; decide), fun q1 m1 => ⟨_, rfl, _, rfl, (by show 2 ≤ sizeLine; decide), fun q2 m2 => ⟨_, rfl, _, rfl, (by show 2 ≤ sizeLine; decide), fun q3 m3 => ?_⟩⟩⟩
    refine ⟨_, rfl, (by show 1 ≤ sizeLine; decide), fun q4 m4 => ⟨_, rfl, _, rfl, _, rfl, (by show 3 ≤ sizeLine; decide), fun q5 m5 => ⟨_, rfl, _, rfl, _, rfl, (by show 2 ≤ sizeLine; decide), fun q6 m6 => ?_⟩⟩⟩
    refine ⟨(by show 0 ≤ sizeLine; decide), fun q7 m7 => ⟨(by show 8 ≤ sizeLine; decide), fun q8 m8 => ?_⟩⟩
    have C1 := hB1.upd (o := .tup [v, .int n]) m1
    have C2 := C1.upd (o := .tup [.int p, v]) m2
    have C3 := C2.upd (o := .lst [.int p, .int n]) m3
    have C4 := C3.upd (o := .tup [.int p]) m4
    have C5 := C4.upd (o := .tup [.int p, .int n, .int n]) m5
    have C6 := C5.upd (o := .tup [.int n, .int p]) m6
    have C7 := C6.upd (o := .tup []) m7
    have L1 := K1.upd (o := .tup [v, .int n]) m1
    have L2 := L1.upd (o := .tup [.int p, v]) m2
    have L3 := L2.upd (o := .lst [.int p, .int n]) m3
    have L4 := L3.upd (o := .tup [.int p]) m4
    have L5 := L4.upd (o := .tup [.int p, .int n, .int n]) m5
    have L6 := L5.upd (o := .tup [.int n, .int p]) m6
    have L7 := L6.upd (o := .tup []) m7
    have J7 : Kp b H1 _ := ((((((Kp.refl.upd (o := .tup [v, .int n]) m1).upd (o := .tup [.int p, v]) m2).upd (o := .lst [.int p, .int n]) m3).upd (o := .tup [.int p]) m4).upd (o := .tup [.int p, .int n, .int n]) m5).upd (o := .tup [.int n, .int p]) m6).upd (o := .tup []) m7
    refine ⟨_, rfl, _, rfl, b, 8, rfl, C7.upd m8, by decide, by decide, fun d2 H2 f0 f1 hB2 k2 => ?_⟩
    have hL := (k2 q8 (C7.ne m8)).trans upd_same
    obtain ⟨u, hu, hat⟩ := pickL [.ref q1, .ref q2, .ref q3, .ref q4, .ref q5, v, .ref q6, .ref q7] f0 (by show d2 < ((8 : Nat) : Int); omega)
    refine ⟨q8, _, d2, u, rfl, rfl, SqL.of hL, hat, ?_⟩
    have J2 : Kp b H1 H2 := (J7.upd m8).trans (kp_of k2)
    have hda2 : Da H2 (Nw H b) v d := hda.kq (J2.kq (.inl rfl))
    have oP := (okInt hp).up (m' := 200) (e' := 1) (by decide) (by decide)
    have oN := (okInt hn).up (m' := 200) (e' := 1) (by decide) (by decide)
    have fin : ∀ d', Da H2 (Nw H b) u d' → Okd d' 2000 3 → Q u H2 := fun d' a o => q u d' H2 a o hB2 (K1.trans J2)
    simp only [List.mem_cons, List.not_mem_nil, or_false] at hu
    rcases hu with rfl | rfl | rfl | rfl | rfl | rfl | rfl | rfl
    · exact fin _ (.tup (nw_of K1 m1 (hB1.ne m1)) ((k2 _ (hB1.ne m1)).trans (kep (kep (kep (kep (kep (kep (kep upd_same m2) m3) m4) m5) m6) m7) m8)) (.cons hda2 (.cons (.int n) .nil))) ((okTuple (n := 2) (mem2 hok oN) (by show 2 ≤ 2; decide)).up (by decide) (by decide))
    · exact fin _ (.tup (nw_of L1 m2 (C1.ne m2)) ((k2 _ (C1.ne m2)).trans (kep (kep (kep (kep (kep (kep upd_same m3) m4) m5) m6) m7) m8)) (.cons (.int p) (.cons hda2 .nil))) ((okTuple (n := 2) (mem2 oP hok) (by show 2 ≤ 2; decide)).up (by decide) (by decide))
    · exact fin _ (.lst (nw_of L2 m3 (C2.ne m3)) ((k2 _ (C2.ne m3)).trans (kep (kep (kep (kep (kep upd_same m4) m5) m6) m7) m8)) (.cons (.int p) (.cons (.int n) .nil))) ((okList (n := 2) (mem2 oP oN) (by show 2 ≤ 2; decide)).up (by decide) (by decide))
    · exact fin _ (.tup (nw_of L3 m4 (C3.ne m4)) ((k2 _ (C3.ne m4)).trans (kep (kep (kep (kep upd_same m5) m6) m7) m8)) (.cons (.int p) .nil)) ((okTuple (n := 2) (mem1 oP) (by show 1 ≤ 2; decide)).up (by decide) (by decide))
    · exact fin _ (.tup (nw_of L4 m5 (C4.ne m5)) ((k2 _ (C4.ne m5)).trans (kep (kep (kep upd_same m6) m7) m8)) (.cons (.int p) (.cons (.int n) (.cons (.int n) .nil)))) ((okTuple (n := 3) (mem3 oP oN oN) (by show 3 ≤ 3; decide)).up (by decide) (by decide))
    · exact fin _ hda2 (hok.up (by decide) (by decide))
    · exact fin _ (.tup (nw_of L5 m6 (C5.ne m6)) ((k2 _ (C5.ne m6)).trans (kep (kep upd_same m7) m8)) (.cons (.int n) (.cons (.int p) .nil))) ((okTuple (n := 2) (mem2 oN oP) (by show 2 ≤ 2; decide)).up (by decide) (by decide))
    · exact fin _ (.tup (nw_of L6 m7 (C6.ne m7)) ((k2 _ (C6.ne m7)).trans (kep upd_same m8)) .nil) ((okTuple (ds := []) (n := 2) (m := 5) (e := 0) (by intro y z; cases z) (by show 0 ≤ 2; decide)).up (by decide) (by decide))
def Ch (d : PyData) : Prop := ∃ p n : Int, d = .tuple [.int p, .int n] ∧ Big p ∧ Big n
theorem ch_can : ∀ ds : List PyData, (∀ d ∈ ds, Ch d) → PyData.canLayAll0 ds = true ∧ PyData.depthAll ds ≤ 1
  | [], _ => ⟨by simp [PyData.canLayAll0], by simp [PyData.depthAll]⟩
  | d :: r, h => by
    obtain ⟨p, n, rfl, _, _⟩ := h d List.mem_cons_self
    obtain ⟨h1, h2⟩ := ch_can r fun x hx => h x (List.mem_cons_of_mem _ hx)
    constructor
    · simp [PyData.canLayAll0, PyData.canLay0, h1]
    · simp only [PyData.depthAll, PyData.depth]
      omega
theorem ch_sh {ds : List PyData} (h : ∀ d ∈ ds, Ch d) : SeqAt.shaped (.list ds) = true := by
  obtain ⟨h1, h2⟩ := ch_can ds h
  unfold SeqAt.shaped
  rw [Bool.and_eq_true]
  refine ⟨by simp only [PyData.canLay0, h1], decide_eq_true ?_⟩
  simp only [PyData.depth]
  omega
theorem nil_sh : SeqAt.shaped (.list []) = true := by
  unfold SeqAt.shaped
  simp [PyData.canLay0, PyData.canLayAll0, PyData.depth, PyData.depthAll]
theorem eqv_nil (ds : List PyData) : PyData.eqv (.list ds) (.list []) = decide (ds = []) := by
  cases ds with
  | nil => simp [PyData.eqv, PyData.eqvAll]
  | cons n r => simp [PyData.eqv, PyData.eqvAll]
theorem ch_ok {d : PyData} (h : Ch d) : Okd d 2000 3 := by
  obtain ⟨p, n, rfl, h1, h2⟩ := h
  exact (okTuple (n := 2) (mem2 (okInt h1) (okInt h2)) (by show 2 ≤ 2; decide)).up (by decide) (by decide)
theorem da_pair {H : Hp} {N : Addr → Prop} {v : V} {p n : Int} (h : Da H N v (.tuple [.int p, .int n])) : ∃ t, v = .ref t ∧ H t = some (.tup [.int p, .int n]) := by
  cases h with
  | tup _ h s =>
    cases s with
    | cons h1 s =>
      cases s with
      | cons h2 s =>
        cases s
        cases h1
        cases h2
        exact ⟨_, rfl, h⟩
def spChg : Sp := fun vs H Q _ => ∃ (b : Addr) (size : Int), vs = [.ref b, .int size] ∧ BoxAt H b ∧ 1 ≤ size ∧ size ≤ 16 ∧
  ∀ (v : V) (d : PyData) (H' : Hp), Da H' (fun c => c = b) v d → Okd d 60000 5 → BoxAt H' b → Kp b H H' → Q v H'
theorem ok_chg (T : Txt K mg) (c__law_take : CalG P w K mg base 1 "_law_take" spTake) (c__law_worth : CalG P w K mg base 2 "_law_worth" spNum) (c__law_other : CalG P w K mg base 2 "_law_other" spOther)
    (D : DefAt K mg "_law_changes" s__law_changes ["_law_box_here", "_law_size"]) : CalG P w K mg base 3 "_law_changes" spChg := by
  refine D.cal sc__law_changes (fun vs H Q E h => ?_) (fun f cdv A outer s H vs Q E hG hr h => ?_)
  · obtain ⟨b, size, rfl, _⟩ := h
    rfl
  · obtain ⟨b, size, rfl, hB, z0, z1, q⟩ := h
    refine ⟨_, (pss_cons (ps_set (i := 2) sc__law_changes.nd rfl (Or.inl rfl) (pe_g c__law_take hG (hr.mono (by decide)) (by rfl) (pa_cons (pv 0) (pa_cons pe_int pa_nil))))
      (pss_cons (ps_set (i := 3) sc__law_changes.nd rfl (Or.inl rfl) (pe_g c__law_take hG (hr.mono (by decide)) (by rfl) (pa_cons (pv 0) (pa_cons pe_int pa_nil))))
      (pss_cons (ps_set (i := 4) sc__law_changes.nd rfl (Or.inl rfl) (pe_ix ix_list (pe_lst (pa_cons (pe_g c__law_take hG (hr.mono (by decide)) (by rfl) (pa_cons (pv 0) (pa_cons pe_int pa_nil))) (pa_cons (pe_g c__law_take hG (hr.mono (by decide)) (by rfl) (pa_cons (pv 0) (pa_cons pe_int pa_nil))) (pa_cons pe_int (pa_cons pe_int pa_nil))))) (pe_g c__law_take hG (hr.mono (by decide)) (by rfl) (pa_cons (pv 0) (pa_cons pe_int pa_nil))) (fun _ _ => rfl)))
      (pss_cons (ps_setLc (i := 5) (own := [("_law_k", 7)]) (g := gName 7) (tt := tYes) rfl sc__law_changes.nd rfl rfl (sw_true rfl rfl rfl (by decide +kernel)) (pi_range1 rfl T.b_range (pa_cons (pv 4) pa_nil)) (blkOk_by (own := [("_law_k", 7)]) (N := ["_law_box_here", "_law_size", "_law_spoilt", "_law_kind", "_law_many", "_law_found", "_law_at", "_law_k"]) (sc := defScope s__law_changes) (by decide +kernel)) (fun _ _ _ _ _ => pg_name (i := 7) sc__law_changes.nd rfl (Or.inl rfl)) (fun _ _ _ _ _ => pts_nil) (fun _ _ _ _ _ => (pe_tup (pa_cons (pe_g c__law_take hG (hr.mono (by decide)) (by rfl) (pa_cons (pv 0) (pa_cons (pv 1) pa_nil))) (pa_cons (pe_g c__law_worth hG (hr.mono (by decide)) (by rfl) (pa_cons (pv 0) pa_nil)) pa_nil)))))
      (pss_cons (ps_if (PW.pt (pw_and (pt_cmpR op_gt (pv 2) pe_int (nomark _)) (pw_and1 (pt_cmpR (op_neD (hu64 hr)) (pv 5) (pe_lst pa_nil) (nomark _)))))
          (pss_cons (ps_set (i := 6) sc__law_changes.nd rfl (Or.inl rfl) (pe_g c__law_take hG (hr.mono (by decide)) (by rfl) (pa_cons (pv 0) (pa_cons (pv 4) pa_nil))))
          (pss_one (ps_asg (pe_g c__law_other hG (hr.mono (by decide)) (by rfl) (pa_cons (pv 0) (pa_cons (pe_ix ix_list (pv 5) (pv 6) (fun _ _ => rfl)) (pa_cons (pv 1) pa_nil)))) (pg_sub (pv 5) (pv 6) set_list)))) pss_nil)
      (pss_one (ps_ret (pe_ix ix_list (pe_lst (pa_cons (pv 5) (pa_cons (pe_callTy call_tuple_of (by rfl) T.t_tuple boot_tuple_ (pa_cons (pv 5) pa_nil)) pa_nil))) (pv 3) (fun _ _ => rfl))))))))), ?_⟩
    refine ⟨_, rfl, b, 3, rfl, hB, by decide, by decide, fun sp H1 s0 s1 hB1 k1 => ?_⟩
    refine ⟨_, rfl, b, 2, rfl, hB1, by decide, by decide, fun kd H2 kd0 kd1 hB2 k2 => ?_⟩
    refine ⟨_, rfl, b, 23, rfl, hB2, by decide, by decide, fun d3 H3 e0 e1 hB3 k3 => ?_⟩
    refine ⟨_, rfl, b, 4, rfl, hB3, by decide, by decide, fun d3' H3' e0' e1' hB3' k3' => ?_⟩
    refine ⟨(by show 4 ≤ sizeLine; decide), fun l4 hl4 => ?_⟩
    refine ⟨_, rfl, b, 4, rfl, hB3'.upd hl4, by decide, by decide, fun d4 H4 f0 f1 hB4 k4 => ?_⟩
    have hL := (k4 l4 (hB3'.ne hl4)).trans upd_same
    obtain ⟨v, hv, hat⟩ := pickL [.int d3, .int d3', .int 20, .int 21] f0 (by show d4 < ((4 : Nat) : Int); omega)
    have hn : ∃ n : Int, v = .int n ∧ 0 ≤ n ∧ n ≤ 22 := by
      simp only [List.mem_cons, List.not_mem_nil, or_false] at hv
      rcases hv with rfl | rfl | rfl | rfl
      · exact ⟨_, rfl, e0, by omega⟩
      · exact ⟨_, rfl, e0', by omega⟩
      all_goals exact ⟨_, rfl, by decide, by decide⟩
    obtain ⟨n, rfl, n0, n1⟩ := hn
    refine ⟨l4, _, d4, _, rfl, rfl, SqL.of hL, hat, ?_⟩
    have hK4 : Kp b H H4 := (kp_of k1).trans ((kp_of k2).trans ((kp_of k3).trans ((kp_of k3').trans ((Kp.refl.upd hl4).trans (kp_of k4)))))
    refine ⟨_, rfl, n, rfl, by omega, by omega, fun D hD0 => ?_⟩
    have hDb : D ≠ b := hB4.ne hD0
    refine lc_range (lo := 0) (n := n.toNat) (fun i H' => Kp b H4 H' ∧ BoxAt H' b ∧ ∃ (vs : List V) (ds : List PyData), vs.length = i ∧ Das H' (fun c => c = b ∨ c = D) vs ds ∧ (∀ d ∈ ds, Ch d) ∧ H' D = some (.lst vs))
      ⟨Kp.refl.upd hD0, hB4.upd hD0, [], [], rfl, .nil, (fun _ z => nomatch z), upd_same⟩ (fun i H' hi hP => ?_) (fun H' hP => ?_)
    · obtain ⟨kk, hBB, vs, ds, hlen, hdas, hch, hD⟩ := hP
      refine ⟨rfl, ?_⟩
      refine ⟨_, rfl, _, rfl, b, size, rfl, hBB, by omega, by omega, fun pp H5 p0 p1 hB5 k5 => ?_⟩
      refine ⟨_, rfl, b, rfl, hB5, fun nn H6 hnn hB6 k6 => ⟨(by show 2 ≤ sizeLine; decide), fun T hT => ?_⟩⟩
      have hD6 := k6 D _ hDb ((k5 D hDb).trans hD)
      have hTD : T ≠ D := (ne_of_none hD6 hT).symm
      have hKT : Kp b H' (upd H6 T (.tup [.int pp, .int nn])) := ((kp_of k5).trans k6).upd hT
      refine ⟨vs, kep hD6 hT, small1000 (by omega), ?_, boxAway (hB6.upd hT) hDb, vs ++ [.ref T], ds ++ [.tuple [.int pp, .int nn]], ?_, ?_, ?_, upd_same⟩
      · intro c o hc z
        have z2 := hKT c o hc (kk c o hc z)
        rw [upd_ne (ne_of_none z hD0)]
        exact z2
      · rw [List.length_append, hlen]
        rfl
      · have kq : Kq (fun c => c = b ∨ c = D) H' (upd (upd H6 T (.tup [.int pp, .int nn])) D (.lst (vs ++ [.ref T]))) := fun c o hc z => by
          have z2 := hKT c o (fun e => hc (.inl e)) z
          rw [upd_ne (fun e => hc (.inr e))]
          exact z2
        refine (hdas.kq kq).snoc (.tup (fun e => ?_) ?_ (.cons (.int _) (.cons (.int _) .nil)))
        · rcases e with e | e
          · exact hB6.ne hT e
          · exact hTD e
        · rw [upd_ne hTD]
          exact upd_same
      · intro x hx
        rcases List.mem_append.mp hx with hx | hx
        · exact hch x hx
        · rw [List.mem_singleton.mp hx]
          exact ⟨pp, nn, rfl, big_small (by omega) (by omega), hnn⟩
    · obtain ⟨kk, hBB, vs, ds, hlen0, hdas, hch, hD⟩ := hP
      have hKH : Kp b H H' := hK4.trans kk
      have hdl := hdas.len
      refine ⟨_, rfl, _, _, rfl, rfl, _, rfl, ?_⟩
      refine ite2 (fun _ => ?_) (fun _ => ?_)
      · refine ⟨_, rfl, (by show 0 ≤ sizeLine; decide), fun l hl => ?_⟩
        have hDl := kep (o := .lst vs) (u := .lst []) hD hl
        have hdasl := hdas.kq ((Kp.refl.upd (b := b) (o := .lst []) hl).kq (.inl rfl))
        refine ⟨.list ds, .list [], .lst (SqL.of hDl) hdasl.dp, .lst (SqL.of upd_same) .nil, ch_sh hch, nil_sh, _, rfl, ?_⟩
        have hBl := hBB.upd (o := .lst []) hl
        have hKl : Kp b H (upd H' l (.lst [])) := hKH.upd hl
        generalize upd H' l (.lst []) = H6 at *
        rw [eqv_nil]
        by_cases hne : ds = []
        · rw [decide_eq_true hne]
          refine iteF ?_
          have hok7 : ∀ d ∈ ds, Okd d 2000 3 := fun d hd => ch_ok (hch d hd)
          have hda7 := hdasl
          have hB7 := hBl
          have hK7 := hKl
          have hD := hDl
          generalize H6 = H7 at *
          generalize vs = xs at *
          refine ⟨_, rfl, _, rfl, D, xs, rfl, .inl ⟨SqL.of hD, fun t ht => ?_⟩⟩
          refine ⟨(by show 2 ≤ sizeLine; decide), fun l hl => ?_⟩
          have hK2 : Kp b H7 (upd (upd H7 t (.tup xs)) l (.lst [.ref D, .ref t])) := (Kp.refl.upd ht).upd hl
          have hda := (hda7.kq (hK2.kq (.inl rfl))).wk (M := fun c => c = b) (fun a z => .inl z)
          have B8 := (hB7.upd (o := .tup xs) ht).upd (o := .lst [.ref D, .ref t]) hl
          have hll := hda7.len
          have hkk : kd = 0 ∨ kd = 1 := by omega
          rcases hkk with rfl | rfl
          · refine ⟨_, rfl, l, _, 0, .ref D, rfl, rfl, SqL.of upd_same, rfl, ?_⟩
            exact q _ _ _ (.lst hDb (hK2 _ _ hDb hD) hda) ((okList (n := 22) hok7 (by omega)).up (by decide) (by decide)) B8 (hK7.trans hK2)
          · refine ⟨_, rfl, l, _, 1, .ref t, rfl, rfl, SqL.of upd_same, rfl, ?_⟩
            exact q _ _ _ (.tup (hB7.ne ht) (kep upd_same hl) hda) ((okTuple (n := 22) hok7 (by omega)).up (by decide) (by decide)) B8 (hK7.trans hK2)
        · rw [decide_eq_false hne]
          refine iteT ?_
          have hpos : 0 < n := by
            have : 0 < ds.length := List.length_pos_iff.mpr hne
            omega
          refine ⟨_, rfl, _, rfl, b, n, rfl, hBl, hpos, by omega, fun j H8 j0 j1 hB8 k8 => ?_⟩
          have hD8 := (k8 D hDb).trans hDl
          obtain ⟨vj, hvj, hat⟩ := pickK vs j0 (by omega)
          have hdas8 := hdasl.kq ((kp_of k8).kq (N := fun c => c = b ∨ c = D) (.inl rfl))
          obtain ⟨dj, hdj, hdaj⟩ := hdas8.get hvj
          obtain ⟨pp, nn, rfl, hpp, hnn⟩ := hch dj (List.mem_of_getElem? hdj)
          obtain ⟨t, rfl, ht⟩ := da_pair hdaj
          refine ⟨_, rfl, _, rfl, _, rfl, D, _, j, _, rfl, rfl, SqL.of hD8, hat, _, rfl, b, t, pp, nn, size, rfl, hB8, ht, hpp, hnn, z0, z1, fun v d H9 hda hok hB9 k9 => ?_⟩
          have hD9 := k9 D _ hDb hD8
          have hjx : ixN vs.length j = some j.toNat := by
            unfold ixN
            rw [if_pos j0, if_pos (by omega)]
          refine ⟨_, rfl, _, rfl, D, _, j, _, rfl, rfl, hD9, hjx, ?_⟩
          have hsub : ∀ a, (a = b ∨ a = D) → Nw H8 b a := fun a z => by
            rcases z with z | z
            · exact .inl z
            · exact .inr ⟨_, z ▸ hD8⟩
          have hset := (hdas8.kq (k9.kq (.inl rfl))).set (i := j.toNat) (hda.wk hsub)
          have kq : Kq (fun c => c = b ∨ c = D) H9 (upd H9 D (.lst (vs.set j.toNat v))) := fun c o hc z => by
            rw [upd_ne (fun e => hc (.inr e))]
            exact z
          have hda7 := hset.kq kq
          have hok7 : ∀ x ∈ ds.set j.toNat d, Okd x 2000 3 := by
            intro x hx
            rcases List.mem_or_eq_of_mem_set hx with hx | rfl
            · exact ch_ok (hch x hx)
            · exact hok
          have hlen7 : (ds.set j.toNat d).length ≤ 22 := by
            rw [List.length_set]
            omega
          have hB7 := boxAway (o := .lst (vs.set j.toNat v)) hB9 hDb
          have hD : (upd H9 D (.lst (vs.set j.toNat v))) D = some (.lst (vs.set j.toNat v)) := upd_same
          have hK7 : Kp b H (upd H9 D (.lst (vs.set j.toNat v))) := fun c o hc z => by
            have z4 := hK4 c o hc z
            rw [upd_ne (ne_of_none z4 hD0)]
            exact ((hKl.trans (kp_of k8)).trans k9) c o hc z
          generalize upd H9 D (.lst (vs.set j.toNat v)) = H7 at *
          generalize vs.set j.toNat v = xs at *
          generalize ds.set j.toNat d = es at *
          refine ⟨_, rfl, _, rfl, D, xs, rfl, .inl ⟨SqL.of hD, fun t ht => ?_⟩⟩
          refine ⟨(by show 2 ≤ sizeLine; decide), fun l hl => ?_⟩
          have hK2 : Kp b H7 (upd (upd H7 t (.tup xs)) l (.lst [.ref D, .ref t])) := (Kp.refl.upd ht).upd hl
          have hda := (hda7.kq (hK2.kq (.inl rfl))).wk (M := fun c => c = b) (fun a z => .inl z)
          have B8 := (hB7.upd (o := .tup xs) ht).upd (o := .lst [.ref D, .ref t]) hl
          have hll := hda7.len
          have hkk : kd = 0 ∨ kd = 1 := by omega
          rcases hkk with rfl | rfl
          · refine ⟨_, rfl, l, _, 0, .ref D, rfl, rfl, SqL.of upd_same, rfl, ?_⟩
            exact q _ _ _ (.lst hDb (hK2 _ _ hDb hD) hda) ((okList (n := 22) hok7 (by omega)).up (by decide) (by decide)) B8 (hK7.trans hK2)
          · refine ⟨_, rfl, l, _, 1, .ref t, rfl, rfl, SqL.of upd_same, rfl, ?_⟩
            exact q _ _ _ (.tup (hB7.ne ht) (kep upd_same hl) hda) ((okTuple (n := 22) hok7 (by omega)).up (by decide) (by decide)) B8 (hK7.trans hK2)
      · have hok7 : ∀ d ∈ ds, Okd d 2000 3 := fun d hd => ch_ok (hch d hd)
        have hda7 := hdas
        have hB7 := hBB
        have hK7 := hKH
        generalize H' = H7 at *
        generalize vs = xs at *
        refine ⟨_, rfl, _, rfl, D, xs, rfl, .inl ⟨SqL.of hD, fun t ht => ?_⟩⟩
        refine ⟨(by show 2 ≤ sizeLine; decide), fun l hl => ?_⟩
        have hK2 : Kp b H7 (upd (upd H7 t (.tup xs)) l (.lst [.ref D, .ref t])) := (Kp.refl.upd ht).upd hl
        have hda := (hda7.kq (hK2.kq (.inl rfl))).wk (M := fun c => c = b) (fun a z => .inl z)
        have B8 := (hB7.upd (o := .tup xs) ht).upd (o := .lst [.ref D, .ref t]) hl
        have hll := hda7.len
        have hkk : kd = 0 ∨ kd = 1 := by omega
        rcases hkk with rfl | rfl
        · refine ⟨_, rfl, l, _, 0, .ref D, rfl, rfl, SqL.of upd_same, rfl, ?_⟩
          exact q _ _ _ (.lst hDb (hK2 _ _ hDb hD) hda) ((okList (n := 22) hok7 (by omega)).up (by decide) (by decide)) B8 (hK7.trans hK2)
        · refine ⟨_, rfl, l, _, 1, .ref t, rfl, rfl, SqL.of upd_same, rfl, ?_⟩
          exact q _ _ _ (.tup (hB7.ne ht) (kep upd_same hl) hda) ((okTuple (n := 22) hok7 (by omega)).up (by decide) (by decide)) B8 (hK7.trans hK2)
end
end Kx
set_option maxHeartbeats 1000000
namespace Kx
open PySem PySem.Spec PyProof.Rows L2 Gd
section
variable {P : Program} {w : World} {K : PySem.W.Frag} {mg : Str → Option Value} {base : Heap}
def spLaw (K : PySem.W.Frag) : Sp := fun vs H Q _ => ∃ (a : Addr) (ns : List Int), vs = [.ref a] ∧ SqL K H a (ns.map V.int) ∧ ns.length ≤ 63 ∧ ∀ H', Q (.bl true) H'
theorem ok_law (T : Txt K mg) {f : Addr} {fd : FuncData} (F : Fun K "law" "law" s_law f fd) (c__law_cell : CalG P w K mg base 1 "_law_cell" (spCell K)) (c__law_box : CalG P w K mg base 1 "_law_box" spBox)
    (c__law_take : CalG P w K mg base 1 "_law_take" spTake) (c__law_changes : CalG P w K mg base 3 "_law_changes" spChg) (c_is_changes : CalG P w K mg base 4 "is_changes" (spChanges K)) (c__law_are : CalG P w K mg base 2 "_law_are" (spChanges K)) :
    FnG P w K mg base CX0 5 f fd ["_law_script"] (spLaw K) := by
  refine okG F sc_law (fun vs H Q E h => ?_) (fun cdv A outer s H vs Q E hG hr h => ?_)
  · obtain ⟨a, ns, rfl, _⟩ := h
    rfl
  · obtain ⟨a, ns, rfl, hS, hl, q⟩ := h
    refine ⟨_, (pss_cons (ps_for PassesOwn.never rfl (pi_range1 rfl T.b_range (pa_cons (pe_callB (call_max2 rfl) (by rfl) T.b_max boot_max_ (pa_cons pe_int (pa_cons (pe_callB (call_min2 rfl) (by rfl) T.b_min boot_min_ (pa_cons (pe_callB call_len (by rfl) T.b_len boot_len_ (pa_cons (pv 0) pa_nil)) (pa_cons pe_int pa_nil))) pa_nil))) pa_nil)) (pg_name (i := 1) sc_law.nd rfl (Or.inl rfl))
          (pss_cons (ps_set (i := 2) sc_law.nd rfl (Or.inl rfl) (pe_g c__law_box hG (hr.mono (by decide)) (by rfl) (pa_cons (pe_g c__law_cell hG (hr.mono (by decide)) (by rfl) (pa_cons (pv 0) (pa_cons (pv 1) pa_nil))) pa_nil)))
          (pss_cons (ps_set (i := 3) sc_law.nd rfl (Or.inl rfl) (pe_ix ix_list (pe_lst (pa_cons (pe_op op_add pe_int (pe_g c__law_take hG (hr.mono (by decide)) (by rfl) (pa_cons (pv 2) (pa_cons pe_int pa_nil)))) (pa_cons pe_int (pa_cons pe_int pa_nil)))) (pe_g c__law_take hG (hr.mono (by decide)) (by rfl) (pa_cons (pv 2) (pa_cons pe_int pa_nil))) (fun _ _ => rfl)))
          (pss_cons (ps_for PassesOwn.never rfl (pi_range1 rfl T.b_range (pa_cons pe_int pa_nil)) (pg_name (i := 4) sc_law.nd rfl (Or.inl rfl))
              (pss_cons (ps_set (i := 5) sc_law.nd rfl (Or.inl rfl) (pe_g c__law_changes hG (hr.mono (by decide)) (by rfl) (pa_cons (pv 2) (pa_cons (pv 3) pa_nil))))
              (pss_cons (ps_set (i := 6) sc_law.nd rfl (Or.inl rfl) (pe_callB (call_repr hG (hu64 hr)) (by rfl) T.b_repr boot_repr_ (pa_cons (pv 5) pa_nil)))
              (pss_one (ps_if (PW.pt (pw_or (pt_cmpR op_ne (pe_callB (call_repr hG (hu64 hr)) (by rfl) T.b_repr boot_repr_ (pa_cons (pe_g c_is_changes hG (hr.mono (by decide)) (by rfl) (pa_cons (pv 5) (pa_cons (pv 3) pa_nil))) pa_nil)) (pe_callB (call_repr hG (hu64 hr)) (by rfl) T.b_repr boot_repr_ (pa_cons (pe_g c__law_are hG (hr.mono (by decide)) (by rfl) (pa_cons (pv 5) (pa_cons (pv 3) pa_nil))) pa_nil)) (nomark _)) (pw_or1 (pt_cmpR op_ne (pe_callB (call_repr hG (hu64 hr)) (by rfl) T.b_repr boot_repr_ (pa_cons (pv 5) pa_nil)) (pv 6) (nomark _)))))
                  (pss_one (ps_ret pe_bl)) pss_nil)))))
          (pss_cons (ps_set (i := 5) sc_law.nd rfl (Or.inl rfl) (pe_ix ix_list (pe_lst (pa_cons pe_non (pa_cons pe_int (pa_cons pe_bl (pa_cons pe_str (pa_cons pe_dnewK (pa_cons (pe_tup (pa_cons (pe_tup (pa_cons pe_int (pa_cons pe_int pa_nil))) (pa_cons pe_int pa_nil))) (pa_cons (pe_tup (pa_cons pe_int (pa_cons pe_int pa_nil))) (pa_cons (pe_lst (pa_cons (pe_tup (pa_cons pe_int (pa_cons pe_int pa_nil))) (pa_cons pe_non pa_nil))) pa_nil))))))))) (pe_g c__law_take hG (hr.mono (by decide)) (by rfl) (pa_cons (pv 2) (pa_cons pe_int pa_nil))) (fun _ _ => rfl)))
          (pss_one (ps_if (pt_cmpR op_ne (pe_callB (call_repr hG (hu64 hr)) (by rfl) T.b_repr boot_repr_ (pa_cons (pe_g c_is_changes hG (hr.mono (by decide)) (by rfl) (pa_cons (pv 5) (pa_cons (pv 3) pa_nil))) pa_nil)) (pe_callB (call_repr hG (hu64 hr)) (by rfl) T.b_repr boot_repr_ (pa_cons (pe_g c__law_are hG (hr.mono (by decide)) (by rfl) (pa_cons (pv 5) (pa_cons (pv 3) pa_nil))) pa_nil)) (nomark _))
              (pss_one (ps_ret pe_bl)) pss_nil)))))))
      (pss_one (ps_ret pe_bl))), ?_⟩
    refine ⟨_, rfl, .ref a, (ns.map V.int).length, rfl, .inl ⟨_, hS, rfl⟩, _, _, rfl, _, _, rfl, ?_⟩
    generalize hM : (if (if (40 : Int) < ((ns.map V.int).length : Nat) then (40 : Int) else ((ns.map V.int).length : Nat)) > 6 then (if (40 : Int) < ((ns.map V.int).length : Nat) then (40 : Int) else ((ns.map V.int).length : Nat)) else 6) = M
    have hM1 : 0 ≤ M ∧ M ≤ 63 := by
      rw [← hM, List.length_map]
      split <;> split <;> omega
    refine ⟨M, rfl, by omega, by omega, ?_⟩
    refine for_range (lo := 0) (n := M.toNat) (fun i σ H' => Same H H' ∧ ∃ y1 y2 y3 y4 y5 y6, σ = [some (.ref a), y1, y2, y3, y4, y5, y6])
      ⟨Same.refl _, none, none, none, none, none, none, rfl⟩ (fun i σ H' hi hP => ?_) (fun σ H' hP => q H')
    obtain ⟨sm, y1, y2, y3, y4, y5, y6, rfl⟩ := hP
    refine ⟨_, rfl, _, rfl, a, ns, _, rfl, sm.seq hS, hl, by omega, fun n => ⟨n, rfl, fun b H2 hb hB2 k2 => ?_⟩⟩
    have sm2 : Same H H2 := same_keep sm hb fun c o hc z => (k2 c hc).trans z
    have nb : ∀ c o, H c = some o → c ≠ b := fun c o z => ne_of_none (sm c o z) hb
    refine ⟨_, rfl, b, 16, rfl, hB2, by decide, by decide, fun d1 H3 a0 a1 hB3 k3 => ?_⟩
    refine ⟨_, _, rfl, rfl, (by show 3 ≤ sizeLine; decide), fun l hl2 => ?_⟩
    refine ⟨_, rfl, b, 3, rfl, hB3.upd hl2, by decide, by decide, fun d2 H4 f0 f1 hB4 k4 => ?_⟩
    have hL := (k4 l (hB3.ne hl2)).trans upd_same
    obtain ⟨v, hv, hat⟩ := pickL [.int (1 + d1), .int 16, .int 1] f0 (by show d2 < ((3 : Nat) : Int); omega)
    have hn : ∃ n : Int, v = .int n ∧ 1 ≤ n ∧ n ≤ 16 := by
      simp only [List.mem_cons, List.not_mem_nil, or_false] at hv
      rcases hv with rfl | rfl | rfl
      · exact ⟨_, rfl, by omega, by omega⟩
      all_goals exact ⟨_, rfl, by decide, by decide⟩
    obtain ⟨size, rfl, z0, z1⟩ := hn
    refine ⟨l, _, d2, _, rfl, rfl, SqL.of hL, hat, ?_⟩
    have kp2 : Kp b H2 H4 := (kp_of k3).trans ((Kp.refl.upd hl2).trans (kp_of k4))
    have sm4 : Same H H4 := fun c o z => kp2 c o (nb c o z) (sm2 c o z)
    refine ⟨3, rfl, by decide, by decide, ?_⟩
    refine for_range (lo := 0) (n := 3) (fun j σ H3 => Same H H3 ∧ BoxAt H3 b ∧ ∃ y4 y5 y6, σ = [some (.ref a), some (.int (0 + i)), some (.ref b), some (.int size), y4, y5, y6])
      ⟨sm4, hB4, y4, y5, y6, rfl⟩ (fun j σ H5 hj hP => ?_) (fun σ H5 hP => ?_)
    · obtain ⟨sm5, hB5, w4, w5, w6, rfl⟩ := hP
      refine ⟨_, rfl, _, rfl, b, size, rfl, hB5, z0, z1, fun v d H6 hda hok hB6 k6 => ?_⟩
      have sm6 : Same H H6 := fun c o z => k6 c o (nb c o z) (sm5 c o z)
      have hdp : Dp K H6 v d := hda.dp
      have hln : d.shown.length ≤ sizeLine := Nat.le_trans hok.ln (by decide)
      have hde : d.depth ≤ 60 := Nat.le_trans hok.dp (by decide)
      refine ⟨_, rfl, v, d, rfl, .d1 (.dp hdp), hok.sh, hln, hde, ?_⟩
      refine ⟨_, rfl, _, rfl, v, d, size, rfl, .dp hdp, fun H7 s7 => ⟨_, _, rfl, .d1 (.dp (.bl _)), (okBool _).sh, bLn _, bDp _, _, rfl, _, rfl, v, d, size, rfl, .dp (dpSame s7 hdp), fun H8 s8 => ⟨_, _, rfl, .d1 (.dp (.bl _)), (okBool _).sh, bLn _, bDp _, rfl, _, rfl, ifSame ?_⟩⟩⟩
      have s68 : Same H6 H8 := s7.trans s8
      refine ⟨_, rfl, v, d, rfl, .d1 (.dp (dpSame s68 hdp)), hok.sh, hln, hde, _, rfl, rfl, _, rfl, ifSame ?_⟩
      exact ⟨sm6.trans s68, boxSame hB6 s68, _, _, _, rfl⟩
    · obtain ⟨sm5, hB5, w4, w5, w6, rfl⟩ := hP
      intro p1 n1
      refine ⟨(by show 2 ≤ sizeLine; decide), fun p2 n2 => ⟨(by show 2 ≤ sizeLine; decide), fun p3 n3 => ⟨(by show 2 ≤ sizeLine; decide), fun p4 n4 => ?_⟩⟩⟩
      refine ⟨(by show 2 ≤ sizeLine; decide), fun p5 n5 => ⟨(by show 2 ≤ sizeLine; decide), fun p6 n6 => ⟨(by show 8 ≤ sizeLine; decide), fun p7 n7 => ?_⟩⟩⟩
      have B1 := hB5.upd (o := .dK []) n1
      have B2 := B1.upd (o := .tup [.int 0, .int 1]) n2
      have B3 := B2.upd (o := .tup [.ref p2, .int 2]) n3
      have B4 := B3.upd (o := .tup [.int 0, .int 1]) n4
      have B5 := B4.upd (o := .tup [.int 0, .int 1]) n5
      have B6 := B5.upd (o := .lst [.ref p5, .non]) n6
      refine ⟨_, rfl, b, 8, rfl, B6.upd n7, by decide, by decide, fun d3 H8 g0 g1 hB8 k8 => ?_⟩
      have hL8 := (k8 p7 (B6.ne n7)).trans upd_same
      obtain ⟨v, hv, hat⟩ := pickL [.non, .int 7, .bl true, .str "", .ref p1, .ref p3, .ref p4, .ref p6] g0 (by show d3 < ((8 : Nat) : Int); omega)
      refine ⟨p7, _, d3, v, rfl, rfl, SqL.of hL8, hat, ?_⟩
      have e1 : H8 p1 = some (.dK []) := (k8 _ (hB5.ne n1)).trans (kep (kep (kep (kep (kep (kep upd_same n2) n3) n4) n5) n6) n7)
      have e2 : H8 p2 = some (.tup [.int 0, .int 1]) := (k8 _ (B1.ne n2)).trans (kep (kep (kep (kep (kep upd_same n3) n4) n5) n6) n7)
      have e3 : H8 p3 = some (.tup [.ref p2, .int 2]) := (k8 _ (B2.ne n3)).trans (kep (kep (kep (kep upd_same n4) n5) n6) n7)
      have e4 : H8 p4 = some (.tup [.int 0, .int 1]) := (k8 _ (B3.ne n4)).trans (kep (kep (kep upd_same n5) n6) n7)
      have e5 : H8 p5 = some (.tup [.int 0, .int 1]) := (k8 _ (B4.ne n5)).trans (kep (kep upd_same n6) n7)
      have e6 : H8 p6 = some (.lst [.ref p5, .non]) := (k8 _ (B5.ne n6)).trans (kep upd_same n7)
      have K8 := (((((((Kp.refl (b := b) (H := H5)).upd (o := .dK []) n1).upd (o := .tup [.int 0, .int 1]) n2).upd (o := .tup [.ref p2, .int 2]) n3).upd (o := .tup [.int 0, .int 1]) n4).upd (o := .tup [.int 0, .int 1]) n5).upd (o := .lst [.ref p5, .non]) n6).upd (o := .lst [.non, .int 7, .bl true, .str "", .ref p1, .ref p3, .ref p4, .ref p6]) n7
      have sm8 : Same H H8 := fun c o z => (k8 c (nb c o z)).trans (K8 c o (nb c o z) (sm5 c o z))
      have pr : ∀ p, H8 p = some (.tup [.int 0, .int 1]) → Dp K H8 (.ref p) (.tuple [.int 0, .int 1]) := fun p e => .tup (SqT.of e) (.cons (.int 0) (.cons (.int 1) .nil))
      have hd : ∃ d, D1 K H8 v d := by
        simp only [List.mem_cons, List.not_mem_nil, or_false] at hv
        rcases hv with rfl | rfl | rfl | rfl | rfl | rfl | rfl | rfl
        · exact ⟨_, .dp .non⟩
        · exact ⟨_, .dp (.int 7)⟩
        · exact ⟨_, .dp (.bl true)⟩
        · exact ⟨_, .dp (.str "")⟩
        · exact ⟨_, .emp e1⟩
        · exact ⟨_, .dp (.tup (SqT.of e3) (.cons (pr _ e2) (.cons (.int 2) .nil)))⟩
        · exact ⟨_, .dp (pr _ e4)⟩
        · exact ⟨_, .dp (.lst (SqL.of e6) (.cons (pr _ e5) (.cons .non .nil)))⟩
      obtain ⟨d, hd⟩ := hd
      refine ⟨_, rfl, _, rfl, v, d, size, rfl, hd, fun H9 s9 => ⟨_, _, rfl, .d1 (.dp (.bl _)), (okBool _).sh, bLn _, bDp _, _, rfl, _, rfl, v, d, size, rfl, d1Same s9 hd, fun H10 s10 => ⟨_, _, rfl, .d1 (.dp (.bl _)), (okBool _).sh, bLn _, bDp _, rfl, _, rfl, ifSame ?_⟩⟩⟩
      exact ⟨(sm8.trans s9).trans s10, _, _, _, _, _, _, rfl⟩
end
end Kx
namespace Kx
open PySem PySem.Spec PyProof.Rows L2 Gd
theorem all_mk {l : PySem.W.OpenLaw} {w : World} {K : PySem.W.Frag} {h : Heap} {mg : Str → Option Value} {fa f0 f1 f2 f3 f4 f5 f6 f7 f8 f9 f10 f11 f12 : Addr} (X : K.In h) (G : h.Ns mainGlobals mg) (hfa : mg "law" = some (.ref fa))
    {od0 an0 od1 an1 od2 an2 od3 an3 od4 an4 od5 an5 od6 an6 od7 an7 od8 an8 od9 an9 od10 an10 od11 an11 od12 an12 : Option Addr} {sl0 sl1 sl2 sl3 sl4 sl5 sl6 sl7 sl8 sl9 sl10 sl11 sl12 : Array (Option Value)}
    {oc0 kV0 dc0 pm0 cd0 ct0 oc1 kV1 dc1 pm1 cd1 ct1 oc2 kV2 dc2 pm2 cd2 ct2 oc3 kV3 dc3 pm3 cd3 ct3 oc4 kV4 dc4 pm4 cd4 ct4 oc5 kV5 dc5 pm5 cd5 ct5 oc6 kV6 dc6 pm6 cd6 ct6 oc7 kV7 dc7 pm7 cd7 ct7 oc8 kV8 dc8 pm8 cd8 ct8 oc9 kV9 dc9 pm9 cd9 ct9 oc10 kV10 dc10 pm10 cd10 ct10 oc11 kV11 dc11 pm11 cd11 ct11 oc12 kV12 dc12 pm12 cd12 ct12 : Value} {t_MOST_WORTH t_MOST_CHANGES : Tok}
    (a0 : PySem.W.nsIn K mainGlobals "is_whole" = some (some (.ref f0)))
    (l0 : K.lookup f0 = some ⟨oc0, od0, .func (PySem.W.fnOf "is_whole" "is_whole" (defArgs s_is_whole) (defBody s_is_whole) (defScope s_is_whole) .none kV0 dc0 pm0 an0 cd0 ct0), sl0⟩)
    (c0 : PySem.W.codeIn K cd0 "is_whole" = true) (k0 : PySem.W.keepIn K (.ref f0) = true)
    (a1 : PySem.W.nsIn K mainGlobals "is_worth" = some (some (.ref f1)))
    (l1 : K.lookup f1 = some ⟨oc1, od1, .func (PySem.W.fnOf "is_worth" "is_worth" (defArgs s_is_worth) (defBody s_is_worth) (defScope s_is_worth) .none kV1 dc1 pm1 an1 cd1 ct1), sl1⟩)
    (c1 : PySem.W.codeIn K cd1 "is_worth" = true) (k1 : PySem.W.keepIn K (.ref f1) = true)
    (a2 : PySem.W.nsIn K mainGlobals "is_changes" = some (some (.ref f2)))
    (l2 : K.lookup f2 = some ⟨oc2, od2, .func (PySem.W.fnOf "is_changes" "is_changes" (defArgs s_is_changes) (defBody s_is_changes) (defScope s_is_changes) .none kV2 dc2 pm2 an2 cd2 ct2), sl2⟩)
    (c2 : PySem.W.codeIn K cd2 "is_changes" = true) (k2 : PySem.W.keepIn K (.ref f2) = true)
    (a3 : PySem.W.nsIn K mainGlobals "_is_change" = some (some (.ref f3)))
    (l3 : K.lookup f3 = some ⟨oc3, od3, .func (PySem.W.fnOf "_is_change" "_is_change" (defArgs s__is_change) (defBody s__is_change) (defScope s__is_change) .none kV3 dc3 pm3 an3 cd3 ct3), sl3⟩)
    (c3 : PySem.W.codeIn K cd3 "_is_change" = true) (k3 : PySem.W.keepIn K (.ref f3) = true)
    (a4 : PySem.W.nsIn K mainGlobals "_law_cell" = some (some (.ref f4)))
    (l4 : K.lookup f4 = some ⟨oc4, od4, .func (PySem.W.fnOf "_law_cell" "_law_cell" (defArgs s__law_cell) (defBody s__law_cell) (defScope s__law_cell) .none kV4 dc4 pm4 an4 cd4 ct4), sl4⟩)
    (c4 : PySem.W.codeIn K cd4 "_law_cell" = true) (k4 : PySem.W.keepIn K (.ref f4) = true)
    (a5 : PySem.W.nsIn K mainGlobals "_law_box" = some (some (.ref f5)))
    (l5 : K.lookup f5 = some ⟨oc5, od5, .func (PySem.W.fnOf "_law_box" "_law_box" (defArgs s__law_box) (defBody s__law_box) (defScope s__law_box) .none kV5 dc5 pm5 an5 cd5 ct5), sl5⟩)
    (c5 : PySem.W.codeIn K cd5 "_law_box" = true) (k5 : PySem.W.keepIn K (.ref f5) = true)
    (a6 : PySem.W.nsIn K mainGlobals "_law_take" = some (some (.ref f6)))
    (l6 : K.lookup f6 = some ⟨oc6, od6, .func (PySem.W.fnOf "_law_take" "_law_take" (defArgs s__law_take) (defBody s__law_take) (defScope s__law_take) .none kV6 dc6 pm6 an6 cd6 ct6), sl6⟩)
    (c6 : PySem.W.codeIn K cd6 "_law_take" = true) (k6 : PySem.W.keepIn K (.ref f6) = true)
    (a7 : PySem.W.nsIn K mainGlobals "_law_worth" = some (some (.ref f7)))
    (l7 : K.lookup f7 = some ⟨oc7, od7, .func (PySem.W.fnOf "_law_worth" "_law_worth" (defArgs s__law_worth) (defBody s__law_worth) (defScope s__law_worth) .none kV7 dc7 pm7 an7 cd7 ct7), sl7⟩)
    (c7 : PySem.W.codeIn K cd7 "_law_worth" = true) (k7 : PySem.W.keepIn K (.ref f7) = true)
    (a8 : PySem.W.nsIn K mainGlobals "_law_is" = some (some (.ref f8)))
    (l8 : K.lookup f8 = some ⟨oc8, od8, .func (PySem.W.fnOf "_law_is" "_law_is" (defArgs s__law_is) (defBody s__law_is) (defScope s__law_is) .none kV8 dc8 pm8 an8 cd8 ct8), sl8⟩)
    (c8 : PySem.W.codeIn K cd8 "_law_is" = true) (k8 : PySem.W.keepIn K (.ref f8) = true)
    (a9 : PySem.W.nsIn K mainGlobals "_law_other" = some (some (.ref f9)))
    (l9 : K.lookup f9 = some ⟨oc9, od9, .func (PySem.W.fnOf "_law_other" "_law_other" (defArgs s__law_other) (defBody s__law_other) (defScope s__law_other) .none kV9 dc9 pm9 an9 cd9 ct9), sl9⟩)
    (c9 : PySem.W.codeIn K cd9 "_law_other" = true) (k9 : PySem.W.keepIn K (.ref f9) = true)
    (a10 : PySem.W.nsIn K mainGlobals "_law_are" = some (some (.ref f10)))
    (l10 : K.lookup f10 = some ⟨oc10, od10, .func (PySem.W.fnOf "_law_are" "_law_are" (defArgs s__law_are) (defBody s__law_are) (defScope s__law_are) .none kV10 dc10 pm10 an10 cd10 ct10), sl10⟩)
    (c10 : PySem.W.codeIn K cd10 "_law_are" = true) (k10 : PySem.W.keepIn K (.ref f10) = true)
    (a11 : PySem.W.nsIn K mainGlobals "_law_changes" = some (some (.ref f11)))
    (l11 : K.lookup f11 = some ⟨oc11, od11, .func (PySem.W.fnOf "_law_changes" "_law_changes" (defArgs s__law_changes) (defBody s__law_changes) (defScope s__law_changes) .none kV11 dc11 pm11 an11 cd11 ct11), sl11⟩)
    (c11 : PySem.W.codeIn K cd11 "_law_changes" = true) (k11 : PySem.W.keepIn K (.ref f11) = true)
    (a12 : PySem.W.nsIn K mainGlobals "law" = some (some (.ref f12)))
    (l12 : K.lookup f12 = some ⟨oc12, od12, .func (PySem.W.fnOf "law" "law" (defArgs s_law) (defBody s_law) (defScope s_law) .none kV12 dc12 pm12 an12 cd12 ct12), sl12⟩)
    (c12 : PySem.W.codeIn K cd12 "law" = true) (k12 : PySem.W.keepIn K (.ref f12) = true)
    (z_len : PySem.W.nsIn K mainGlobals "len" = some none)
    (z_max : PySem.W.nsIn K mainGlobals "max" = some none)
    (z_min : PySem.W.nsIn K mainGlobals "min" = some none)
    (z_all : PySem.W.nsIn K mainGlobals "all" = some none)
    (z_range : PySem.W.nsIn K mainGlobals "range" = some none)
    (z_repr : PySem.W.nsIn K mainGlobals "repr" = some none)
    (z_isinstance : PySem.W.nsIn K mainGlobals "isinstance" = some none)
    (z_int : PySem.W.nsIn K mainGlobals "int" = some none)
    (z_bool : PySem.W.nsIn K mainGlobals "bool" = some none)
    (z_list : PySem.W.nsIn K mainGlobals "list" = some none)
    (z_tuple : PySem.W.nsIn K mainGlobals "tuple" = some none)
    (i_MOST_WORTH : PySem.W.nsIn K mainGlobals "MOST_WORTH" = some (some (.int (10 ^ 30 - 1) t_MOST_WORTH)))
    (i_MOST_CHANGES : PySem.W.nsIn K mainGlobals "MOST_CHANGES" = some (some (.int 20 t_MOST_CHANGES)))
    : ∃ fd : FuncData, (∀ (s : Shared) (v : Value), BindsTo s fd ⟨[v], []⟩ [("_law_script", v)]) ∧ ∀ base : Heap, K.In base → base.Ns mainGlobals mg → FnG l.prog w K mg base CX0 5 fa fd ["_law_script"] (spLaw K) := by
  have e := hfa.symm.trans (PySem.W.mg_of X G a12)
  cases e
  have d_is_whole : DefAt K mg "is_whole" s_is_whole ["thing", "low", "high"] := defAt (PySem.W.mg_of X G a0) l0 c0 k0 (fun _ _ _ _ _ _ us hl => match us, hl with | [_, _, _], _ => rfl)
  have d_is_worth : DefAt K mg "is_worth" s_is_worth ["thing"] := defAt (PySem.W.mg_of X G a1) l1 c1 k1 (fun _ _ _ _ _ _ us hl => match us, hl with | [_], _ => rfl)
  have d_is_changes : DefAt K mg "is_changes" s_is_changes ["thing", "size"] := defAt (PySem.W.mg_of X G a2) l2 c2 k2 (fun _ _ _ _ _ _ us hl => match us, hl with | [_, _], _ => rfl)
  have d__is_change : DefAt K mg "_is_change" s__is_change ["thing", "size"] := defAt (PySem.W.mg_of X G a3) l3 c3 k3 (fun _ _ _ _ _ _ us hl => match us, hl with | [_, _], _ => rfl)
  have d__law_cell : DefAt K mg "_law_cell" s__law_cell ["_law_script", "_law_k"] := defAt (PySem.W.mg_of X G a4) l4 c4 k4 (fun _ _ _ _ _ _ us hl => match us, hl with | [_, _], _ => rfl)
  have d__law_box : DefAt K mg "_law_box" s__law_box ["_law_cell_here"] := defAt (PySem.W.mg_of X G a5) l5 c5 k5 (fun _ _ _ _ _ _ us hl => match us, hl with | [_], _ => rfl)
  have d__law_take : DefAt K mg "_law_take" s__law_take ["_law_box_here", "_law_many"] := defAt (PySem.W.mg_of X G a6) l6 c6 k6 (fun _ _ _ _ _ _ us hl => match us, hl with | [_, _], _ => rfl)
  have d__law_worth : DefAt K mg "_law_worth" s__law_worth ["_law_box_here"] := defAt (PySem.W.mg_of X G a7) l7 c7 k7 (fun _ _ _ _ _ _ us hl => match us, hl with | [_], _ => rfl)
  have d__law_is : DefAt K mg "_law_is" s__law_is ["_law_thing", "_law_low", "_law_high"] := defAt (PySem.W.mg_of X G a8) l8 c8 k8 (fun _ _ _ _ _ _ us hl => match us, hl with | [_, _, _], _ => rfl)
  have d__law_other : DefAt K mg "_law_other" s__law_other ["_law_box_here", "_law_change", "_law_size"] := defAt (PySem.W.mg_of X G a9) l9 c9 k9 (fun _ _ _ _ _ _ us hl => match us, hl with | [_, _, _], _ => rfl)
  have d__law_are : DefAt K mg "_law_are" s__law_are ["_law_thing", "_law_size"] := defAt (PySem.W.mg_of X G a10) l10 c10 k10 (fun _ _ _ _ _ _ us hl => match us, hl with | [_, _], _ => rfl)
  have d__law_changes : DefAt K mg "_law_changes" s__law_changes ["_law_box_here", "_law_size"] := defAt (PySem.W.mg_of X G a11) l11 c11 k11 (fun _ _ _ _ _ _ us hl => match us, hl with | [_, _], _ => rfl)
  have F_law := fun_mk (st := s_law) l12 c12 k12
  refine ⟨PySem.W.fnOf "law" "law" (defArgs s_law) (defBody s_law) (defScope s_law) .none kV12 dc12 pm12 an12 cd12 ct12, fun s v => .of_eq rfl, fun base _ _ => ?_⟩
  have T : Txt K mg := ⟨PySem.W.mg_none_of X G z_len, PySem.W.mg_none_of X G z_max, PySem.W.mg_none_of X G z_min, PySem.W.mg_none_of X G z_all, PySem.W.mg_none_of X G z_range, PySem.W.mg_none_of X G z_repr, PySem.W.mg_none_of X G z_isinstance, PySem.W.mg_none_of X G z_int, PySem.W.mg_none_of X G z_bool, PySem.W.mg_none_of X G z_list, PySem.W.mg_none_of X G z_tuple, ⟨t_MOST_WORTH, PySem.W.mg_of X G i_MOST_WORTH⟩, ⟨t_MOST_CHANGES, PySem.W.mg_of X G i_MOST_CHANGES⟩⟩
  have c1 := ok_cell (P := l.prog) (w := w) (base := base) T d__law_cell
  have c2 := ok_box (P := l.prog) (w := w) (base := base) T d__law_box
  have c3 := ok_take (P := l.prog) (w := w) (base := base) T d__law_take
  have c4 := ok_num c3 d__law_worth
  have c5 := ok_other c3 d__law_other
  have c6 := ok_whole (P := l.prog) (w := w) (base := base) T d_is_whole
  have c7 := ok_lawis (P := l.prog) (w := w) (base := base) T d__law_is
  have c8 := ok_worth T c6 d_is_worth
  have c9 := ok_change T c6 c8 d__is_change
  have c10 := ok_changes T c9 d_is_changes
  have c11 := ok_are T c7 d__law_are
  have c12 := ok_chg T c3 c4 c5 d__law_changes
  exact ok_law T F_law c1 c2 c3 c12 c10 c11
end Kx
open PySem PySem.W PyProof.Rows
set_option maxRecDepth 100000 in
set_option maxHeartbeats 0 in
theorem PySem.Challenge.cw_makeskept_k02_changes_holds : PySem.Challenge.rw_makeskept_k02_changes.Holds := by
  w_on; o_law; k_head; (case hw => w_witness2)
  k_fill
  refine Gd.walkG (l := PySem.Challenge.rw_makeskept_k02_changes) (n := 63) (k := 5) (x := "_law_script") (CX := fun _ => L2.CX0) (sp := fun w => Kx.spLaw _) rfl (by decide) rfl ⟨rfl, by decide, by decide⟩ (fun w h Y => PySem.W.kIn_of Y) ?F (fun _ _ a ns hl _ hS => ⟨a, ns, rfl, hS, hl, fun _ => rfl⟩) (fun _ _ _ _ _ h => h)
  case F =>
    intro w mg fa h KX G hmg
    refine' Kx.all_mk KX G hmg ?a0 ?l0 ?c0 ?k0 ?a1 ?l1 ?c1 ?k1 ?a2 ?l2 ?c2 ?k2 ?a3 ?l3 ?c3 ?k3 ?a4 ?l4 ?c4 ?k4 ?a5 ?l5 ?c5 ?k5 ?a6 ?l6 ?c6 ?k6 ?a7 ?l7 ?c7 ?k7 ?a8 ?l8 ?c8 ?k8 ?a9 ?l9 ?c9 ?k9 ?a10 ?l10 ?c10 ?k10 ?a11 ?l11 ?c11 ?k11 ?a12 ?l12 ?c12 ?k12 ?z_len ?z_max ?z_min ?z_all ?z_range ?z_repr ?z_isinstance ?z_int ?z_bool ?z_list ?z_tuple ?i_MOST_WORTH ?i_MOST_CHANGES
    (case a0 => k_is)
    (case l0 => k_is)
    (case c0 => k_is)
    (case k0 => k_is)
    (case a1 => k_is)
    (case l1 => k_is)
    (case c1 => k_is)
    (case k1 => k_is)
    (case a2 => k_is)
    (case l2 => k_is)
    (case c2 => k_is)
    (case k2 => k_is)
    (case a3 => k_is)
    (case l3 => k_is)
    (case c3 => k_is)
    (case k3 => k_is)
    (case a4 => k_is)
    (case l4 => k_is)
    (case c4 => k_is)
    (case k4 => k_is)
    (case a5 => k_is)
    (case l5 => k_is)
    (case c5 => k_is)
    (case k5 => k_is)
    (case a6 => k_is)
    (case l6 => k_is)
    (case c6 => k_is)
    (case k6 => k_is)
    (case a7 => k_is)
    (case l7 => k_is)
    (case c7 => k_is)
    (case k7 => k_is)
    (case a8 => k_is)
    (case l8 => k_is)
    (case c8 => k_is)
    (case k8 => k_is)
    (case a9 => k_is)
    (case l9 => k_is)
    (case c9 => k_is)
    (case k9 => k_is)
    (case a10 => k_is)
    (case l10 => k_is)
    (case c10 => k_is)
    (case k10 => k_is)
    (case a11 => k_is)
    (case l11 => k_is)
    (case c11 => k_is)
    (case k11 => k_is)
    (case a12 => k_is)
    (case l12 => k_is)
    (case c12 => k_is)
    (case k12 => k_is)
    (case z_len => k_is)
    (case z_max => k_is)
    (case z_min => k_is)
    (case z_all => k_is)
    (case z_range => k_is)
    (case z_repr => k_is)
    (case z_isinstance => k_is)
    (case z_int => k_is)
    (case z_bool => k_is)
    (case z_list => k_is)
    (case z_tuple => k_is)
    (case i_MOST_WORTH => k_is)
    (case i_MOST_CHANGES => k_is)

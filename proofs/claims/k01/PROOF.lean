import PyProof.Rows.All
import Wide.All
import OpenK.AllK
import Wide.FinOn
import HandS.ForMost
import HandS.IsInst
import HandS.TupLe
import PySem.Challenge.RW_makeskept_k01_worths_and_rows
set_option Elab.async false
set_option linter.all false
set_option maxRecDepth 100000
set_option maxHeartbeats 4000000
/-! A promise of a def that is kept where nothing is being shown (no repr under way), and repr of data under it. -/
namespace Gd
open PySem PySem.Spec PyProof.Rows L2

/-- as FnOk, asked only where no repr is under way -/
structure FnG (P : Program) (w : World) (K : PySem.W.Frag) (mg : Str → Option Value) (base : Heap)
    (CX : CXT) (k : Nat) (f : Addr) (fd : FuncData) (ps : List Str) (sp : Sp) : Prop where
  arity : ∀ vs H Q E, sp vs H Q E → vs.length = ps.length
  go : ∀ (A : Around) (outer : List Env) (s : Shared) (H : Hp) (args : Args) (us : List Value) (vs : List V)
    (Q : VK) (E : XK), A.guards = some [] → Room k A → Env0 P w K mg base A outer s H →
    BindsTo s fd args (ps.zip us) → Vals vs us → sp vs H Q E →
    codeAny (model P w) A (.call (.ref f) args) (CR CX outer P w H s Q E) s

section
variable {P : Program} {w : World} {K : PySem.W.Frag} {mg : Str → Option Value} {base : Heap}
theorem FnG.low {CX : CXT} {j k : Nat} {f : Addr} {fd : FuncData} {ps : List Str} {sp : Sp}
    (F : FnG P w K mg base CX j f fd ps sp) (h : j ≤ k) : FnG P w K mg base CX k f fd ps sp :=
  ⟨F.arity, fun A o s H ar us vs Q E g r => F.go A o s H ar us vs Q E g (r.mono h)⟩
theorem FnG.ofOk {CX : CXT} {k : Nat} {f : Addr} {fd : FuncData} {ps : List Str} {sp : Sp}
    (F : FnOk P w K mg base CX k f fd ps sp) : FnG P w K mg base CX k f fd ps sp :=
  ⟨F.len, fun A o s H ar us vs Q E _ r => F.run A o s H ar us vs Q E r⟩

/-- the rule for a def, told that no repr is under way -/
theorem fnG_of {CX : CXT} {k : Nat} {f : Addr} {name qual : Str} {params : Arguments} {body : List Stmt}
    {scope : Scope} {dV kV doc pm cdv ct oc : Value} {an od : Option Addr} {osl : Array (Option Value)}
    {N ps : List Str} {sp : Sp}
    (lk : K.lookup f = some ⟨oc, od, .func (PySem.W.fnOf name qual params body scope dV kV doc pm an cdv ct), osl⟩)
    (cin : PySem.W.codeIn K cdv qual = true) (S : FnScope N ps scope)
    (ar : ∀ vs H Q E, sp vs H Q E → vs.length = ps.length)
    (bd : ∀ (A : Around) (outer : List Env) (s : Shared) (H : Hp) (vs : List V) (Q : VK) (E : XK),
      A.guards = some [] → Room k (A.deeper (envOfC qual scope s.heap.objs.size f cdv)) → sp vs H Q E →
      ∃ t, PSs (cxOf CX P w K mg base N qual scope f cdv A outer s H E) body t ∧
        t { nx := fun _ H' => Q .non H', rt := Q } (start N vs) H) :
    FnG P w K mg base CX (k + 1) f (PySem.W.fnOf name qual params body scope dV kV doc pm an cdv ct) ps sp := by
  constructor
  · exact ar
  intro A outer s H args us vs Q E hG room env bind rel prem
  have long := ar _ _ _ _ prem
  have kin : K.In s.heap := env.mod.kin.keeps fun b o z => (env.bs b o z).1
  have nl : s.heap.NoLimit := env.mod.nolimit.keeps fun b o z => (env.bs b o z).1
  have kinds : ∀ y ∈ ps.zip us, scope.names.lookup y.1 = some .local ∨
      (scope.names.lookup y.1 = some .cell ∧
        ((cellsFrom (s.heap.objs.size + 1) scope.names []).lookup y.1).isSome = true) := by
    rintro ⟨n, v⟩ hy
    cases S.par n (List.of_mem_zip hy).1 with
    | inl q => exact .inl q
    | inr q => exact .inr ⟨q, PySem.W.cellsFrom_some _ _ _ (.inl q)⟩
  apply codeAny_call_function room.depth (kin _ _ lk) rfl S.co S.gen rfl (PySem.W.codeRec_of kin cin)
  apply bind
  apply wpAny_newFunctionEnv_cells S.kind kinds
  intro en hen s1 x
  subst hen
  refine ⟨nl.keeps x.toInCall.keep, ?_⟩
  apply codeAny_func
  obtain ⟨t, der, rd⟩ := bd A outer s H vs Q E hG (room.deeper _) prem
  have J := inv_start (CX := CX) (E := E) (mg := mg) S room.hd env long rel x
  apply wpAny_mono (der.run [] s1 (start N vs) H _ J rd)
  · intro fl s' hs
    cases fl with
    | ret u =>
      obtain ⟨v, _, H', J', rv, q⟩ := hs
      exact ⟨v, H', J'.os, J'.bare, J'.base, J'.hok, rv, q⟩
    | next =>
      obtain ⟨_, H', J', q⟩ := hs
      exact ⟨.non, H', J'.os, J'.bare, J'.base, J'.hok, rfl, q⟩
    | brk =>
      obtain ⟨_, _, _, q⟩ := hs
      exact q.elim
    | cont =>
      obtain ⟨_, _, _, q⟩ := hs
      exact q.elim
  · intro e s' hs
    exact hs
theorem okG {x qual : Str} {st : Stmt} {f : Addr} {fd : FuncData} {N ps : List Str} {k : Nat} {sp : Sp}
    (F : Fun K x qual st f fd) (S : FnScope N ps (defScope st))
    (ar : ∀ vs H Q E, sp vs H Q E → vs.length = ps.length)
    (bd : ∀ (cdv : Value) (A : Around) (outer : List Env) (s : Shared) (H : Hp) (vs : List V) (Q : VK) (E : XK),
      A.guards = some [] → Room k (A.deeper (envOfC qual (defScope st) s.heap.objs.size f cdv)) → sp vs H Q E →
      ∃ t, PSs (cxOf CX0 P w K mg base N qual (defScope st) f cdv A outer s H E).nox (defBody st) t ∧
        t { nx := fun _ H' => Q .non H', rt := Q } (start N vs) H) :
    FnG P w K mg base CX0 (k + 1) f fd ps sp := by
  obtain ⟨oc, od, kV, doc, pm, an, cdv, ct, osl, rfl, lk, cin⟩ := F.ex
  apply fnG_of lk cin S ar
  intro A outer s H vs Q E hG room prem
  obtain ⟨t, der, rd⟩ := bd cdv A outer s H vs Q E hG room prem
  exact ⟨t, der.nox, rd⟩
end

section
variable {X : Cx} {CX : CXT} {k : Nat} {f : Addr} {fd : FuncData} {ps : List Str} {sp : Sp} {dvs : List V}
  {ds : List Value} {E : XK} {x : Str} {p pos : Pos} {e : Expr} {es : List Expr} {t : TA}
theorem enterG {pins : List (Addr × Obj)} {σ : L2.St} {H : Hp} {s : Shared} {Q : VK} {us : List Value} {vs : List V}
    (F : FnG X.prog X.w X.K X.mg X.base CX k f fd ps sp) (hG : X.A.guards = some []) (hr : Room k X.A)
    (hb : Binds X.K fd ps ds) (hd : Vals dvs ds) (hx : Passes CX X E) (J : Inv X pins σ H s) (rel : Vals vs us)
    (prem : sp (vs ++ dvs) H Q E) :
    wpAny (model X.prog X.w) X.A (call (.ref f) us) (EP X pins σ Q) X.xe s := by
  have rel2 : Vals (vs ++ dvs) (us ++ ds) := rel.append hd
  have long : (us ++ ds).length = ps.length := rel2.length ▸ F.arity _ _ _ _ prem
  apply wpAny_call
  apply codeAny_mono (F.go X.A X.stack s H ⟨us, []⟩ (us ++ ds) (vs ++ dvs) Q E hG hr J.env0 (hb s us J.kIn long)
    rel2 prem)
  intro r s' hq
  match r, hq with
  | .error _, hq => exact hx pins σ H s _ s' J hq
  | .ok (.ret _), hq => exact J.after hq
  | .ok .next, hq => exact hq.elim
  | .ok .brk, hq => exact hq.elim
  | .ok .cont, hq => exact hq.elim
/-- f(e, ..) of a def that keeps its promise where no repr is under way -/
theorem pe_callG (F : FnG X.prog X.w X.K X.mg X.base CX k f fd ps sp) (hG : X.A.guards = some []) (hr : Room k X.A)
    (hg : Gl X x) (hm : X.mg x = some (.ref f)) (hk : PySem.W.keepIn X.K (.ref f) = true) (hb : Binds X.K fd ps ds)
    (hd : Vals dvs ds) (hx : Passes CX X E) (ha : PA X (e :: es) t)
    (hdb : (x == ("__debug__" : Str)) = false := by decide)
    (he : starEach (e :: es) X.env = (false, eval e X.env) :: starEach es X.env := by rfl)
    (hpl : (backTo pos (starEach es X.env)).any (·.1) = false := by rfl) :
    PE X (.Call (.Name x p) (e :: es) [] pos) (tCall sp dvs E t) := by
  constructor
  intro pins s σ H Q J prem
  have arg := ha.run pos pins s σ H _ J prem
  apply wpAny_Call_Name_kw
  apply ld_glob J hg hm (hd := hdb)
  apply PySem.W.callWith_K (h₀ := X.base) J.ok.mod.kin hk (he := he) (hplain := hpl)
  apply thn arg
  rintro us s1 ⟨vs, H1, J1, rel, q⟩
  exact ⟨J1.kIn, enterG F hG hr hb hd hx J1 rel q⟩
end
end Gd
namespace Gd
open PySem PySem.Spec PyProof.Rows L2
section
variable {P : Program} {w : World} {K : PySem.W.Frag} {mg mb : Str → Option Value} {CX : CXT} {k : Nat} {fa a : Addr}
  {fd : FuncData} {x : Str} {sp : Sp} {s₁ : Shared} {vs : List Value} {ns : List Int}
/-- the law's call from one abstract heap that tracks at most the script -/
theorem callOne (kin : K.In s₁.heap) (gl : s₁.heap.Ns mainGlobals mg) (bl : s₁.heap.Ns builtinsNs mb)
    (bb : ∀ x : Str, x ≠ "__name__" → mb x = bootBuiltins x) (nl : s₁.heap.NoLimit) (gn : s₁.gens = #[])
    (at_ : s₁.heap.get? a = some { cls := .type "list", data := .seq vs.toArray }) (room : Room k callerA)
    (F : ∀ base : Heap, K.In base → base.Ns mainGlobals mg → FnG P w K mg base CX k fa fd [x] sp)
    (bind : ∀ (s : Shared) (u : Value), BindsTo s fd ⟨[u], []⟩ [(x, u)])
    (H : Hp) (only : Only H) (prem : sp [.ref a] H (fun v _ => v = .bl true) fun _ _ _ => False)
    (noX : ∀ e s', CX [] H s₁ (fun _ _ _ => False) e s' → False)
    (hok : HOk P w H s₁.heap) (here : ∀ b, H b ≠ none → b = a) (out : H a ≠ none → K.lookup a = none) :
    codeAny (model P w) callerA (.call (.ref fa) ⟨[.ref a], []⟩)
      (fun r s' => r = .ok (.ret (.bool true)) ∧ OldK s₁.heap s'.heap ∧ s'.os = s₁.os ∧ AllBare s'.gens) s₁ := by
  have free : ∀ {b : Addr} {o : Obj} {es : Array DictEntry} {ep : Nat},
      s₁.heap.get? b = some o → o.data = .dict es ep → H b = none := by
    intro b o es ep z dd
    refine Classical.byContradiction fun q => ?_
    have hb := here b q
    rw [hb, at_] at z
    injection z with z
    rw [← z] at dd
    injection dd
  have nsOf : ∀ {b : Addr} {m : Str → Option Value}, s₁.heap.Ns b m → (hidT s₁.heap H).Ns b m := by
    rintro b m ⟨o, es, ep, z, dd, r⟩
    exact ⟨o, es, ep, hidT_get z (free z dd), dd, r⟩
  have kinB : K.In (hidT s₁.heap H) := by
    intro b o z
    refine hidT_get (kin b o z) (Classical.byContradiction fun q => ?_)
    have hb := here b q
    rw [hb] at z q
    rw [out q] at z
    injection z
  have modB : Mod K mg (hidT s₁.heap H) := by
    obtain ⟨mc, l1, l2⟩ := nl
    exact ⟨kinB, nsOf gl, ⟨mb, nsOf bl, bb⟩, ⟨mc, nsOf l1, l2⟩⟩
  have env : Env0 P w K mg (hidT s₁.heap H) callerA [] s₁ H := by
    refine ⟨rfl, modB, fun b o z => of_hidT z, Nat.le_of_eq (hidT_size _ _), trivial, ?_, hok, .of_eq gn⟩
    intro b hb
    exact absurd (show b ∈ ([] : List Addr) from hb) List.not_mem_nil
  have ran := (F _ kinB (nsOf gl)).go callerA [] s₁ H ⟨[.ref a], []⟩ [.ref a] [.ref a] _ _ rfl room env
    (bind s₁ (.ref a)) (.cons rfl .nil) prem
  apply codeAny_mono ran
  intro r s' q
  match r, q with
  | .error _, q => exact (noX _ _ q).elim
  | .ok .next, q => exact q.elim
  | .ok .brk, q => exact q.elim
  | .ok .cont, q => exact q.elim
  | .ok (.ret u), q =>
    obtain ⟨v, H', os, bare, un, hok', rv, ev⟩ := q
    have ev' : v = .bl true := ev
    subst ev'
    have hu : u = Value.bool true := rv
    subst hu
    refine ⟨rfl, ?_, os, bare⟩
    apply OldK.of_keep
    intro b o z
    have nob : b ∉ ([] : List Addr) := List.not_mem_nil
    cases q : H b with
    | none => exact un.keep b o z q nob nob
    | some u =>
      cases only b with
      | inl z0 =>
        rw [q] at z0
        injection z0
      | inr z0 =>
        obtain ⟨ob, xs, z1⟩ := z0
        have y1 := (hok b _ z1).1
        have y2 := (hok' b _ (un.frzs b ob _ z1)).1
        rw [z] at y1
        injection y1 with y1
        rw [y1]
        exact y2
theorem callG (kin : K.In s₁.heap) (gl : s₁.heap.Ns mainGlobals mg) (bl : s₁.heap.Ns builtinsNs mb)
    (bb : ∀ x : Str, x ≠ "__name__" → mb x = bootBuiltins x) (nl : s₁.heap.NoLimit) (gn : s₁.gens = #[])
    (at_ : s₁.heap.get? a = some { cls := .type "list", data := .seq vs.toArray }) (hin : IntsAre vs ns)
    (short : ns.length ≤ sizeLine) (room : Room k callerA)
    (F : ∀ base : Heap, K.In base → base.Ns mainGlobals mg → FnG P w K mg base CX k fa fd [x] sp)
    (bind : ∀ (s : Shared) (u : Value), BindsTo s fd ⟨[u], []⟩ [(x, u)])
    (prem : ∀ H : Hp, Only H → SqL K H a (ns.map V.int) → sp [.ref a] H (fun v _ => v = .bl true) fun _ _ _ => False)
    (noX : ∀ H e s', CX [] H s₁ (fun _ _ _ => False) e s' → False) :
    codeAny (model P w) callerA (.call (.ref fa) ⟨[.ref a], []⟩)
      (fun r s' => r = .ok (.ret (.bool true)) ∧ OldK s₁.heap s'.heap ∧ s'.os = s₁.os ∧ AllBare s'.gens) s₁ := by
  have rv := vals_ints hin
  have lens := hin.length
  cases hk : K.lookup a with
  | some o =>
    have z := kin a o hk
    rw [at_] at z
    injection z with z
    subst z
    have only : Only (fun _ => none) := fun _ => .inl rfl
    refine callOne kin gl bl bb nl gn at_ room F bind (fun _ => none) only (prem _ only ?_) (noX _)
      (fun b u z => ?_) (fun b z => absurd rfl z) fun z => absurd rfl z
    · refine .inr ⟨_, vs.toArray, _, hk, rfl, rfl, rfl, ?_, ?_⟩
      · rw [List.size_toArray, lens]
        exact short
      · simpa using rv
    · have z' : (none : Option HO) = some u := z
      injection z'
  | none =>
    let T : HO := .frz { cls := .type "list", data := .seq vs.toArray } (.lst (ns.map V.int))
    have only : Only (fun b => if b = a then some T else none) := fun b => by
      by_cases hb : b = a
      · exact .inr ⟨_, _, if_pos hb⟩
      · exact .inl (if_neg hb)
    refine callOne kin gl bl bb nl gn at_ room F bind (fun b => if b = a then some T else none) only
      (prem _ only (.inl (.inr ⟨{ cls := .type "list", data := .seq vs.toArray }, if_pos rfl⟩))) (noX _)
      (fun b u z => ?_) (fun b z => ?_) fun _ => hk
    · by_cases hb : b = a
      · have z' : some T = some u := (if_pos hb).symm.trans z
        injection z' with z'
        subst z'
        subst hb
        refine ⟨at_, ?_, vs, _, rv, at_⟩
        rw [List.length_map]
        exact short
      · have z' : (none : Option HO) = some u := (if_neg hb).symm.trans z
        injection z'
    · refine Classical.byContradiction fun hb => z (if_neg hb)
end
/-- the goal that k_head leaves, from the law's promise under FnG -/
theorem walkG {l : PySem.W.OpenLaw} {n k : Nat} {q : Program} {loose : List Str} {XP : (Str → Option Value) → Heap → Prop}
    {YP : World → Heap → Prop} {d : DefRec} {K : Params → PySem.W.Frag} {CX : World → CXT} {sp : World → Sp} {x : Str}
    (most : l.most = some n) (line : n ≤ sizeLine) (nod : d.params.defaults = []) (room : Room k callerA)
    (kin : ∀ (w : World) (h : Heap), YP w h → (K w.params).In h)
    (F : ∀ (w : World) (mg : Str → Option Value) (fa : Addr) (h : Heap),
      (K w.params).In h → h.Ns mainGlobals mg → mg d.name = some (.ref fa) →
      ∃ fd : FuncData, (∀ (s : Shared) (u : Value), BindsTo s fd ⟨[u], []⟩ [(x, u)]) ∧
        ∀ base : Heap, (K w.params).In base → base.Ns mainGlobals mg →
          FnG l.prog w (K w.params) mg base (CX w) k fa fd [x] (sp w))
    (prem : ∀ (w : World) (H : Hp) (a : Addr) (ns : List Int), ns.length ≤ n → Only H →
      SqL (K w.params) H a (ns.map V.int) → sp w [.ref a] H (fun v _ => v = .bl true) fun _ _ _ => False)
    (noX : ∀ (w : World) (H : Hp) (s : Shared) (e : Value) (s' : Shared),
      CX w [] H s (fun _ _ _ => False) e s' → False) :
    PySem.W.WalkO q loose XP YP l.row.toRowW d [] (fun f vs => PySem.call f vs) := by
  apply Att.attach_call most nod
  intro w s₀ s₁ mg mb fa o pm cd doc a vs ns G Y ho hd hcd hmg hobj hints hlen hg
  have kx := kin w _ Y
  obtain ⟨fd, hb, hF⟩ := F w mg fa _ kx G.T.g hmg
  refine callG kx G.T.g G.T.b G.T.builtins G.T.nolimit hg hobj hints (Nat.le_trans hlen line) room hF hb ?_ ?_
  · intro H hO hS
    exact prem w H a ns hlen hO hS
  · intro H e s'
    exact noX w H s₁ e s'
end Gd
namespace Gd
open PySem PySem.Spec PyProof.Rows L2
/-- plain data, or an empty dict -/
inductive D1 (K : PySem.W.Frag) (H : Hp) : V → PyData → Prop
  | dp {v : V} {d : PyData} (h : Dp K H v d) : D1 K H v d
  | emp {a : Addr} (h : H a = some (.dK [])) : D1 K H (.ref a) (.dict [])
inductive D1s (K : PySem.W.Frag) (H : Hp) : List V → List PyData → Prop
  | nil : D1s K H [] []
  | cons {v : V} {vs : List V} {d : PyData} {ds : List PyData} : D1 K H v d → D1s K H vs ds → D1s K H (v :: vs) (d :: ds)
/-- such, or a list or a tuple of such -/
inductive D2 (K : PySem.W.Frag) (H : Hp) : V → PyData → Prop
  | d1 {v : V} {d : PyData} (h : D1 K H v d) : D2 K H v d
  | lst {a : Addr} {xs : List V} {ds : List PyData} : SqL K H a xs → D1s K H xs ds → D2 K H (.ref a) (.list ds)
  | tup {a : Addr} {xs : List V} {ds : List PyData} : SqT K H a xs → D1s K H xs ds → D2 K H (.ref a) (.tuple ds)

mutual
theorem noDict {K : PySem.W.Frag} {H : Hp} : ∀ {v : V} {d : PyData}, Dp K H v d → d.hasDict = false
  | _, _, .non => by simp only [PyData.hasDict]
  | _, _, .bl _ => by simp only [PyData.hasDict]
  | _, _, .int _ => by simp only [PyData.hasDict]
  | _, _, .str _ => by simp only [PyData.hasDict]
  | _, _, .lst _ ha => by
    simp only [PyData.hasDict]
    exact noDicts ha
  | _, _, .tup _ ha => by
    simp only [PyData.hasDict]
    exact noDicts ha
theorem noDicts {K : PySem.W.Frag} {H : Hp} : ∀ {vs : List V} {ds : List PyData}, DpAll K H vs ds → PyData.hasDictAll ds = false
  | _, _, .nil => by simp only [PyData.hasDictAll]
  | _, _, .cons h1 h2 => by simp only [PyData.hasDictAll, noDict h1, noDicts h2, Bool.or_self]
end

section
variable {X : Cx} {pins : List (Addr × Obj)} {σ : L2.St} {H : Hp} {s : Shared}
theorem D1.rd (I : Inv X pins σ H s) {v : V} {d : PyData} {u : Value} (h : D1 X.K H v d) (r : RelV v u) :
    ∃ as, Reads s.heap u d as ∧ (d.hasDict = true → sysModules ∉ as) := by
  cases h with
  | dp h =>
    obtain ⟨as, q⟩ := Dp.reads I d v u h r
    exact ⟨as, q, PyData.noDict_hsm (noDict h)⟩
  | @emp a h =>
    cases (show u = Value.ref a from r)
    obtain ⟨_, hs, vs, kv, o, es, ep, q⟩ := (show ObjOk X.prog X.w H s.heap a (.dK []) from I.hok a _ h)
    cases kv
    obtain ⟨e1, e2, e3, e4⟩ := q
    have e5 : es.toList = [] := by
      have e6 := e4.2.1
      generalize es.toList = l at e6 ⊢
      cases e6
      rfl
    refine ⟨_, Reads.dict (kvs := []) (as := []) (bs := []) e1 e2.1 e3 ?_ ?_, fun _ => ?_⟩
    · rw [e5]
      exact .nil
    · rw [e5]
      exact .nil
    · intro z
      have z' : sysModules = a := by simpa using z
      rw [← z'] at hs
      simp at hs
theorem D1s.rd (I : Inv X pins σ H s) : ∀ {vs : List V} {ds : List PyData} {us : List Value}, D1s X.K H vs ds → Vals vs us →
    ∃ as, ReadsAll s.heap us ds as
  | _, _, _, .nil, .nil => ⟨_, .nil⟩
  | _, _, _, .cons h1 h2, .cons r1 r2 => by
    obtain ⟨as, q1, _⟩ := h1.rd I r1
    obtain ⟨bs, q2⟩ := D1s.rd I h2 r2
    exact ⟨_, .cons q1 q2⟩
theorem D1.one (I : Inv X pins σ H s) {v : V} {d : PyData} {u : Value} (h : D1 X.K H v d) (r : RelV v u)
    (hs : d.showable = true) (hz : d.shown.length ≤ sizeLine) :
    ∃ bs, ReadAtMost s.heap d.depth bs ∧ ReprK X.prog X.w bs s.heap d.depth u d.shown := by
  obtain ⟨as, q, hm⟩ := h.rd I r
  exact ReprK.of_reads q hs hm hz
theorem D1s.each (I : Inv X pins σ H s) {n : Nat} : ∀ {vs : List V} {ds : List PyData} {us : List Value}, D1s X.K H vs ds → Vals vs us →
    PyData.showableAll ds = true → (∀ t ∈ PyData.shownAll ds, t.length ≤ sizeLine) → PyData.depthAll ds ≤ n →
    ∃ bs, ReadAtMost s.heap n bs ∧ ReprAllK X.prog X.w bs s.heap n us (PyData.shownAll ds)
  | _, _, _, .nil, .nil, _, _, _ => ⟨[], (fun _ z => nomatch z), by simp only [PyData.shownAll]; exact .nil⟩
  | _, _, _, .cons (d := d) (ds := ds) h1 h2, .cons r1 r2, hs, hz, hn => by
    have hs' : d.showable = true ∧ PyData.showableAll ds = true := by simpa [PyData.showableAll] using hs
    simp only [PyData.depthAll] at hn
    simp only [PyData.shownAll] at hz ⊢
    obtain ⟨b1, m1, k1⟩ := h1.one I r1 hs'.1 (hz _ List.mem_cons_self)
    obtain ⟨b2, m2, k2⟩ := D1s.each I h2 r2 hs'.2 (fun t ht => hz t (List.mem_cons_of_mem _ ht)) (by omega : PyData.depthAll ds ≤ n)
    refine ⟨b1 ++ b2, (m1.mono (by omega)).append m2, .cons ((k1.more fun b hb => List.mem_append_left _ hb).level_le (by omega)) (k2.more_le (fun b hb => List.mem_append_right _ hb) (Nat.le_refl _))⟩
end

/-- repr of such data where no repr is under way -/
def rRepr (K : PySem.W.Frag) : List V → Hp → VK → Prop := fun xs H Q => ∃ v d, xs = [v] ∧ D2 K H v d ∧ d.showable = true ∧
  d.shown.length ≤ sizeLine ∧ d.depth ≤ 60 ∧ Q (.str d.shown) H
section
variable {X : Cx}
theorem call_repr (hG : X.A.guards = some []) (hu : X.A.units + 64 < cLine) : CallR X (.builtin "repr") (rRepr X.K) := by
  intro pins s σ H xs us Q I rel h
  obtain ⟨v, d, rfl, hd, hs, hz, hdep, q⟩ := h
  obtain ⟨u, rfl, r⟩ := vals1 rel
  cases hd with
  | d1 h1 =>
    cases h1 with
    | dp hp =>
      cases hp with
      | non =>
        cases (show u = Value.none from r)
        simp only [PyData.shown] at q
        exact PySem.P.repr_of_none ⟨.str _, H, I.tok _, ⟨_, rfl⟩, q⟩
      | bl b =>
        cases (show u = Value.bool b from r)
        simp only [PyData.shown] at q
        exact PySem.P.repr_of_bool ⟨.str _, H, I.tok _, ⟨_, rfl⟩, q⟩
      | int i =>
        obtain ⟨t, rfl⟩ := (show ∃ t, u = Value.int i t from r)
        simp only [PyData.shown] at q
        exact PySem.P.repr_of_int (by simpa [PyData.showable] using hs) ⟨.str _, H, I.tok _, ⟨_, rfl⟩, q⟩
      | str x =>
        obtain ⟨t, rfl⟩ := (show ∃ t, u = Value.str x t from r)
        simp only [PyData.shown] at q hz
        exact PySem.P.repr_of_str ⟨.str _, H, I.tok _, ⟨_, rfl⟩, q⟩ hz
      | @lst a ys ds hl ha =>
        cases (show u = Value.ref a from r)
        obtain ⟨as, rd, hm⟩ := (D1.dp (.lst hl ha) : D1 X.K H (.ref a) (.list ds)).rd I rfl
        exact repr_of_reads' rd hs hm hG (by omega) (fun _ _ z => z) (fun h' u tk hk => ⟨.str _, H, I.kept hk, ⟨_, rfl⟩, q⟩) hz
      | @tup a ys ds hl ha =>
        cases (show u = Value.ref a from r)
        obtain ⟨as, rd, hm⟩ := (D1.dp (.tup hl ha) : D1 X.K H (.ref a) (.tuple ds)).rd I rfl
        exact repr_of_reads' rd hs hm hG (by omega) (fun _ _ z => z) (fun h' u tk hk => ⟨.str _, H, I.kept hk, ⟨_, rfl⟩, q⟩) hz
    | @emp a ha =>
      cases (show u = Value.ref a from r)
      obtain ⟨as, rd, hm⟩ := (D1.emp ha : D1 X.K H (.ref a) (.dict [])).rd I rfl
      exact repr_of_reads' rd hs hm hG (by omega) (fun _ _ z => z) (fun h' u tk hk => ⟨.str _, H, I.kept hk, ⟨_, rfl⟩, q⟩) hz
  | @lst a ys ds hl ha =>
    cases (show u = Value.ref a from r)
    obtain ⟨its, rv, ⟨o, n, ho, hc, _, ho2⟩, _⟩ := I.list hl
    obtain ⟨as, rda⟩ := ha.rd I rv
    have hz' : (listText (PyData.shownAll ds)).length ≤ sizeLine := by simpa only [PyData.shown] using hz
    simp only [PyData.depth] at hdep
    obtain ⟨bs, hb, hk⟩ := ha.each I rv (by simpa [PyData.showable] using hs) (fun t ht => Nat.le_trans (listText_mem_le ht) hz') (Nat.le_refl _)
    have hna : a ∉ bs := not_mem_of_deeper (.list ho hc ho2 rda) (by simp only [PyData.depth]; omega) hb
    simp only [PyData.shown] at q
    have ty : s.TypeIs (.ref a) "list" := ⟨o, ho, hc⟩
    have fin : ∀ h' u tk, (∀ b o, s.heap.get? b = some o → h'.get? b = some o) →
        EP X pins σ Q (.str (listText (PyData.shownAll ds)) u) { s with heap := h', toks := tk } :=
      fun h' u tk hk => ⟨.str _, H, I.kept hk, ⟨_, rfl⟩, q⟩
    refine call_repr_slot (by omega) ty PySem.F.slot_list_repr.toG ?_
    cases its with
    | nil =>
      cases rda
      simp only [PyData.shownAll, listText_nil] at fin
      exact call_list_repr_empty ty ho ho2 ⟨_, _, rfl, fin s.heap _ _ fun _ _ e => e⟩
    | cons x l =>
      exact call_list_reprK ho hc ho2 hna (by simpa using hk.length_eq) (fun i y e => hk.item i y (by simpa using e)) hG
        (fun b _ => Clear.nil b) (by show X.A.units + 1 + (_ + 1) < cLine; omega) (fun _ _ z => z) (fun h' u tk hk => ⟨_, _, rfl, fin h' u tk hk⟩) hz'
  | @tup a ys ds hl ha =>
    cases (show u = Value.ref a from r)
    obtain ⟨its, rv, ⟨o, ho, hc, n, ho2⟩, _⟩ := I.tuple hl
    obtain ⟨as, rda⟩ := ha.rd I rv
    have hz' : (tupleText (PyData.shownAll ds)).length ≤ sizeLine := by simpa only [PyData.shown] using hz
    simp only [PyData.depth] at hdep
    obtain ⟨bs, hb, hk⟩ := ha.each I rv (by simpa [PyData.showable] using hs) (fun t ht => Nat.le_trans (tupleText_mem_le ht) hz') (Nat.le_refl _)
    have hna : a ∉ bs := not_mem_of_deeper (.tuple ho hc ho2 rda) (by simp only [PyData.depth]; omega) hb
    simp only [PyData.shown] at q
    have ty : s.TypeIs (.ref a) "tuple" := ⟨o, ho, hc⟩
    refine call_repr_slot (by omega) ty PySem.F.slot_tuple_repr ?_
    exact call_tuple_reprK ho hc ho2 hna (by simpa using hk) hG (fun b _ => Clear.nil b) (by show X.A.units + 1 + (_ + 1) < cLine; omega) (fun _ _ z => z)
      (fun h' u tk hk => ⟨_, _, rfl, ⟨.str _, H, I.kept hk, ⟨_, rfl⟩, q⟩⟩) hz'
end
end Gd
namespace Gd
open PySem PySem.Spec PyProof.Rows L2
/-- a def of the top, with its name -/
structure DefAt (K : PySem.W.Frag) (mg : Str → Option Value) (x : Str) (st : Stmt) (ps : List Str) : Prop where
  ex : ∃ (f : Addr) (fd : FuncData), Fun K x x st f fd ∧ mg x = some (.ref f) ∧ Binds K fd ps []
/-- a def by its name, its promise kept where no repr is under way -/
structure CalG (P : Program) (w : World) (K : PySem.W.Frag) (mg : Str → Option Value) (base : Heap) (k : Nat) (x : Str) (sp : Sp) : Prop where
  ex : ∃ (f : Addr) (fd : FuncData) (ps : List Str), FnG P w K mg base CX0 k f fd ps sp ∧ mg x = some (.ref f) ∧
    PySem.W.keepIn K (.ref f) = true ∧ Binds K fd ps []
section
variable {P : Program} {w : World} {K : PySem.W.Frag} {mg : Str → Option Value} {base : Heap}
theorem DefAt.cal {x : Str} {st : Stmt} {N ps : List Str} {k : Nat} {sp : Sp} (D : DefAt K mg x st ps) (S : FnScope N ps (defScope st))
    (ar : ∀ vs H Q E, sp vs H Q E → vs.length = ps.length)
    (bd : ∀ (f : Addr) (cdv : Value) (A : Around) (outer : List Env) (s : Shared) (H : Hp) (vs : List V) (Q : VK) (E : XK),
      A.guards = some [] → Room k (A.deeper (envOfC x (defScope st) s.heap.objs.size f cdv)) → sp vs H Q E →
      ∃ t, PSs (cxOf CX0 P w K mg base N x (defScope st) f cdv A outer s H E).nox (defBody st) t ∧
        t { nx := fun _ H' => Q .non H', rt := Q } (start N vs) H) : CalG P w K mg base (k + 1) x sp := by
  obtain ⟨f, fd, F, m, b⟩ := D.ex
  exact ⟨f, fd, ps, okG F S ar (bd f), m, F.kp, b⟩
theorem DefAt.mk' {X : K.In base} {x : Str} {st : Stmt} {ps : List Str} {f : Addr} {oc : Value} {od an : Option Addr} {osl : Array (Option Value)} {kV doc pm cdv ct : Value}
    (m : mg x = some (.ref f))
    (l : K.lookup f = some ⟨oc, od, .func (PySem.W.fnOf x x (defArgs st) (defBody st) (defScope st) .none kV doc pm an cdv ct), osl⟩)
    (c : PySem.W.codeIn K cdv x = true) (k : PySem.W.keepIn K (.ref f) = true)
    (b : ∀ (kV doc pm : Value) (an : Option Addr) (cdv ct : Value) (us : List Value), us.length = ps.length →
      bindArgs (PySem.W.fnOf x x (defArgs st) (defBody st) (defScope st) .none kV doc pm an cdv ct) ⟨us, []⟩ = pure (ps.zip us)) :
    DefAt K mg x st ps := by
  have F := fun_mk (st := st) l c k
  exact ⟨f, _, F, m, F.binds b⟩
end
section
variable {X : Cx} {k : Nat} {sp : Sp} {x : Str} {p pos : Pos} {e : Expr} {es : List Expr} {t : TA}
theorem pe_g (c : CalG X.prog X.w X.K X.mg X.base k x sp) (hG : X.A.guards = some []) (hr : Room k X.A) (hg : Gl X x)
    (ha : PA X (e :: es) t) (hdb : (x == ("__debug__" : Str)) = false := by decide)
    (he : starEach (e :: es) X.env = (false, eval e X.env) :: starEach es X.env := by rfl)
    (hpl : (backTo pos (starEach es X.env)).any (·.1) = false := by rfl) :
    PE X (.Call (.Name x p) (e :: es) [] pos) (tCall sp [] E0 t) := by
  obtain ⟨f, fd, ps, F, m, kp, b⟩ := c.ex
  exact pe_callG F hG hr hg m kp b .nil pass0 ha hdb he hpl
/-- a module's constant, a whole number -/
def GInt (mg : Str → Option Value) (x : Str) (n : Int) : Prop := ∃ t, mg x = some (.int n t)
theorem pe_gi {n : Int} (hg : Gl X x) (h : GInt X.mg x n) (hd : (x == ("__debug__" : Str)) = false := by decide) : PE X (.Name x pos) (tC (.int n)) := by
  obtain ⟨t, h⟩ := h
  exact pe_glob hg h ⟨t, rfl⟩ hd
theorem hu64 {A : Around} (hr : Room k A) : A.units + 64 < cLine := by
  have := hr.un
  omega
/-- x is True, x is False, for any x -/
def isB (x : V) (b : Bool) : Bool := match x with
  | .bl a => a == b
  | _ => false
theorem op_isB : OpR X (compareOp .Is) (fun x y H Q => ∃ b, y = .bl b ∧ Q (.bl (isB x b)) H) := by
  intro pins s σ H x y v u Q I rx ry h
  obtain ⟨b, rfl, q⟩ := h
  cases (show u = Value.bool b from ry)
  cases x with
  | non =>
    cases (show v = Value.none from rx)
    exact wpAny_is_other rfl (fun z => nomatch z) ⟨.bl false, H, I, rfl, q⟩
  | bl a =>
    cases (show v = Value.bool a from rx)
    by_cases e : a = b
    · subst e
      refine wpAny_is_self rfl ⟨.bl true, H, I, rfl, ?_⟩
      simpa [isB] using q
    · refine wpAny_is_other rfl (fun z => e (Value.bool.inj z)) ⟨.bl false, H, I, rfl, ?_⟩
      have e2 : isB (.bl a) b = false := beq_eq_false_iff_ne.mpr e
      rw [e2] at q
      exact q
  | int i =>
    obtain ⟨t, rfl⟩ := (show ∃ t, v = Value.int i t from rx)
    exact wpAny_is_other rfl (fun z => nomatch z) ⟨.bl false, H, I, rfl, q⟩
  | str i =>
    obtain ⟨t, rfl⟩ := (show ∃ t, v = Value.str i t from rx)
    exact wpAny_is_other rfl (fun z => nomatch z) ⟨.bl false, H, I, rfl, q⟩
  | byt i =>
    obtain ⟨t, rfl⟩ := (show ∃ t, v = Value.bytes i t from rx)
    exact wpAny_is_other rfl (fun z => nomatch z) ⟨.bl false, H, I, rfl, q⟩
  | flt i =>
    obtain ⟨t, rfl⟩ := (show ∃ t, v = Value.float i t from rx)
    exact wpAny_is_other rfl (fun z => nomatch z) ⟨.bl false, H, I, rfl, q⟩
  | ref i =>
    cases (show v = Value.ref i from rx)
    exact wpAny_is_other rfl (fun z => nomatch z) ⟨.bl false, H, I, rfl, q⟩
  | ty i =>
    cases (show v = Value.type i from rx)
    exact wpAny_is_other rfl (fun z => nomatch z) ⟨.bl false, H, I, rfl, q⟩
theorem op_isntB : OpR X (compareOp .IsNot) (fun x y H Q => ∃ b, y = .bl b ∧ Q (.bl (!isB x b)) H) := by
  intro pins s σ H x y v u Q I rx ry h
  obtain ⟨b, rfl, q⟩ := h
  cases (show u = Value.bool b from ry)
  cases x with
  | non =>
    cases (show v = Value.none from rx)
    exact wpAny_isNot_other rfl (fun z => nomatch z) ⟨.bl true, H, I, rfl, q⟩
  | bl a =>
    cases (show v = Value.bool a from rx)
    by_cases e : a = b
    · subst e
      refine wpAny_isNot_self rfl ⟨.bl false, H, I, rfl, ?_⟩
      simpa [isB] using q
    · refine wpAny_isNot_other rfl (fun z => e (Value.bool.inj z)) ⟨.bl true, H, I, rfl, ?_⟩
      have e2 : isB (.bl a) b = false := beq_eq_false_iff_ne.mpr e
      rw [e2] at q
      exact q
  | int i =>
    obtain ⟨t, rfl⟩ := (show ∃ t, v = Value.int i t from rx)
    exact wpAny_isNot_other rfl (fun z => nomatch z) ⟨.bl true, H, I, rfl, q⟩
  | str i =>
    obtain ⟨t, rfl⟩ := (show ∃ t, v = Value.str i t from rx)
    exact wpAny_isNot_other rfl (fun z => nomatch z) ⟨.bl true, H, I, rfl, q⟩
  | byt i =>
    obtain ⟨t, rfl⟩ := (show ∃ t, v = Value.bytes i t from rx)
    exact wpAny_isNot_other rfl (fun z => nomatch z) ⟨.bl true, H, I, rfl, q⟩
  | flt i =>
    obtain ⟨t, rfl⟩ := (show ∃ t, v = Value.float i t from rx)
    exact wpAny_isNot_other rfl (fun z => nomatch z) ⟨.bl true, H, I, rfl, q⟩
  | ref i =>
    cases (show v = Value.ref i from rx)
    exact wpAny_isNot_other rfl (fun z => nomatch z) ⟨.bl true, H, I, rfl, q⟩
  | ty i =>
    cases (show v = Value.type i from rx)
    exact wpAny_isNot_other rfl (fun z => nomatch z) ⟨.bl true, H, I, rfl, q⟩
end
/-! names of the built-ins -/
theorem boot_len_ : bootBuiltins "len" = some (.builtin "len") := by decide +kernel
theorem boot_max_ : bootBuiltins "max" = some (.builtin "max") := by decide +kernel
theorem boot_min_ : bootBuiltins "min" = some (.builtin "min") := by decide +kernel
theorem boot_abs_ : bootBuiltins "abs" = some (.builtin "abs") := by decide +kernel
theorem boot_all_ : bootBuiltins "all" = some (.builtin "all") := by decide +kernel
theorem boot_repr_ : bootBuiltins "repr" = some (.builtin "repr") := by decide +kernel
theorem boot_isinstance_ : bootBuiltins "isinstance" = some (.builtin "isinstance") := by decide +kernel
theorem boot_int_ : bootBuiltins "int" = some (.type "int") := by decide +kernel
theorem boot_bool_ : bootBuiltins "bool" = some (.type "bool") := by decide +kernel
theorem boot_str_ : bootBuiltins "str" = some (.type "str") := by decide +kernel
theorem boot_list_ : bootBuiltins "list" = some (.type "list") := by decide +kernel
theorem boot_tuple_ : bootBuiltins "tuple" = some (.type "tuple") := by decide +kernel
theorem boot_dict_ : bootBuiltins "dict" = some (.type "dict") := by decide +kernel

/-! ### the box of a cell: what is drawn of it is any number below the bound -/
def BoxAt (H : Hp) (b : Addr) : Prop := ∃ x y z : Int, 0 ≤ x ∧ 0 ≤ y ∧ y < 2147483629 ∧ H b = some (.lst [.int x, .int y, .int z])
/-- all but the box is kept -/
def Kp (b : Addr) (H H' : Hp) : Prop := ∀ c o, c ≠ b → H c = some o → H' c = some o
theorem Kp.refl {b : Addr} {H : Hp} : Kp b H H := fun _ _ _ z => z
theorem Kp.trans {b : Addr} {H H1 H2 : Hp} (h : Kp b H H1) (k : Kp b H1 H2) : Kp b H H2 := fun c o n z => k c o n (h c o n z)
theorem Kp.upd {b p : Addr} {H H' : Hp} {o : HO} (h : Kp b H H') (n : H' p = none) : Kp b H (upd H' p o) := fun c u hc z => by
  have z2 := h c u hc z
  rw [upd_ne (ne_of_none z2 n)]
  exact z2
theorem BoxAt.upd {b p : Addr} {H : Hp} {o : HO} (h : BoxAt H b) (n : H p = none) : BoxAt (L2.upd H p o) b := by
  obtain ⟨x, y, z, h1, h2, h3, h4⟩ := h
  refine ⟨x, y, z, h1, h2, h3, ?_⟩
  rw [upd_ne (ne_of_none h4 n)]
  exact h4
theorem BoxAt.ne {b p : Addr} {H : Hp} (h : BoxAt H b) (n : H p = none) : p ≠ b := by
  obtain ⟨x, y, z, _, _, _, h4⟩ := h
  exact (ne_of_none h4 n).symm
def spTake : Sp := fun vs H Q _ => ∃ (b : Addr) (m : Int), vs = [.ref b, .int m] ∧ BoxAt H b ∧ 0 < m ∧ m ≤ 1000000000 ∧
  ∀ (d : Int) (H' : Hp), 0 ≤ d → d < m → BoxAt H' b → (∀ c, c ≠ b → H' c = H c) → Q (.int d) H'
def spCell (K : PySem.W.Frag) : Sp := fun vs H Q _ => ∃ (a : Addr) (ns : List Int) (k : Int), vs = [.ref a, .int k] ∧ SqL K H a (ns.map V.int) ∧
  ns.length ≤ 63 ∧ 0 ≤ k ∧ ∀ n : Int, Q (.int n) H
def spBox : Sp := fun vs H Q _ => ∃ n : Int, vs = [.int n] ∧ ∀ (b : Addr) (H' : Hp), H b = none → BoxAt H' b → (∀ c, c ≠ b → H' c = H c) → Q (.ref b) H'
theorem kp_of {b : Addr} {H H' : Hp} (h : ∀ c, c ≠ b → H' c = H c) : Kp b H H' := fun c o n z => by
  rw [h c n]
  exact z
theorem atI_ints {ns : List Int} {k : Int} (h0 : 0 ≤ k) (h1 : k < ns.length) : ∃ n, atI (ns.map V.int) k = some (.int n) := by
  obtain ⟨j, rfl⟩ : ∃ j : Nat, k = j := ⟨k.toNat, by omega⟩
  have hj : j < ns.length := by omega
  refine ⟨ns[j], atI_nat ?_⟩
  rw [List.getElem?_map, List.getElem?_eq_getElem hj]
  rfl
end Gd
namespace Kw
open PySem PySem.Spec PyProof.Rows L2 Gd
def topS (i : Nat) : Stmt := PySem.Challenge.pw_makeskept_k01_worths_and_rows.main.body.getD i (.Pass ⟨0, 0, 0, 0⟩)
abbrev s_is_whole : Stmt := topS 3
abbrev s_is_worth : Stmt := topS 4
abbrev s_is_worths : Stmt := topS 5
abbrev s__law_cell : Stmt := topS 7
abbrev s__law_box : Stmt := topS 8
abbrev s__law_take : Stmt := topS 9
abbrev s__law_number : Stmt := topS 10
abbrev s__law_thing : Stmt := topS 11
abbrev s__law_is : Stmt := topS 12
abbrev s__law_are_worths : Stmt := topS 13
abbrev s__law_row : Stmt := topS 14
abbrev s__law_right : Stmt := topS 15
abbrev s_law : Stmt := topS 16
theorem sc_is_whole : FnScope ["thing", "low", "high"] ["thing", "low", "high"] (defScope s_is_whole) := ⟨rfl, rfl, rfl, by decide +kernel, rfl, by decide +kernel, by decide +kernel⟩
theorem sc_is_worth : FnScope ["thing"] ["thing"] (defScope s_is_worth) := ⟨rfl, rfl, rfl, by decide +kernel, rfl, by decide +kernel, by decide +kernel⟩
theorem sc_is_worths : FnScope ["thing", "worth"] ["thing"] (defScope s_is_worths) := ⟨rfl, rfl, rfl, by decide +kernel, rfl, by decide +kernel, by decide +kernel⟩
theorem sc__law_cell : FnScope ["_law_script", "_law_k"] ["_law_script", "_law_k"] (defScope s__law_cell) := ⟨rfl, rfl, rfl, by decide +kernel, rfl, by decide +kernel, by decide +kernel⟩
theorem sc__law_box : FnScope ["_law_cell_here"] ["_law_cell_here"] (defScope s__law_box) := ⟨rfl, rfl, rfl, by decide +kernel, rfl, by decide +kernel, by decide +kernel⟩
theorem sc__law_take : FnScope ["_law_box_here", "_law_many", "_law_digit", "_law_number_here"] ["_law_box_here", "_law_many"] (defScope s__law_take) := ⟨rfl, rfl, rfl, by decide +kernel, rfl, by decide +kernel, by decide +kernel⟩
theorem sc__law_number : FnScope ["_law_box_here", "_law_most", "_law_way"] ["_law_box_here"] (defScope s__law_number) := ⟨rfl, rfl, rfl, by decide +kernel, rfl, by decide +kernel, by decide +kernel⟩
theorem sc__law_thing : FnScope ["_law_box_here", "_law_way", "_law_some"] ["_law_box_here"] (defScope s__law_thing) := ⟨rfl, rfl, rfl, by decide +kernel, rfl, by decide +kernel, by decide +kernel⟩
theorem sc__law_is : FnScope ["_law_thing_here", "_law_low", "_law_high"] ["_law_thing_here", "_law_low", "_law_high"] (defScope s__law_is) := ⟨rfl, rfl, rfl, by decide +kernel, rfl, by decide +kernel, by decide +kernel⟩
theorem sc__law_are_worths : FnScope ["_law_thing_here", "_law_worth"] ["_law_thing_here"] (defScope s__law_are_worths) := ⟨rfl, rfl, rfl, by decide +kernel, rfl, by decide +kernel, by decide +kernel⟩
theorem sc__law_row : FnScope ["_law_box_here", "_law_spoilt", "_law_kind", "_law_size", "_law_row_here", "_law_k"] ["_law_box_here"] (defScope s__law_row) := ⟨rfl, rfl, rfl, by decide +kernel, rfl, by decide +kernel, by decide +kernel⟩
theorem sc__law_right : FnScope ["_law_box_here", "_law_thing_here", "_law_low", "_law_high", "_law_row_here", "_law_kept"] ["_law_box_here"] (defScope s__law_right) := ⟨rfl, rfl, rfl, by decide +kernel, rfl, by decide +kernel, by decide +kernel⟩
theorem sc_law : FnScope ["_law_script", "_law_k", "_law_box_here", "_law_turn", "_law_many", "_law_row_here"] ["_law_script"] (defScope s_law) := ⟨rfl, rfl, rfl, by decide +kernel, rfl, by decide +kernel, by decide +kernel⟩
structure Txt (K : PySem.W.Frag) (mg : Str → Option Value) : Prop where
  b_len : mg "len" = none
  b_max : mg "max" = none
  b_min : mg "min" = none
  b_all : mg "all" = none
  b_range : mg "range" = none
  b_repr : mg "repr" = none
  b_isinstance : mg "isinstance" = none
  t_int : mg "int" = none
  t_bool : mg "bool" = none
  t_list : mg "list" = none
  t_tuple : mg "tuple" = none
  g_MOST_WORTH : GInt mg "MOST_WORTH" (10 ^ 30 - 1)
  g_MOST_PLACES : GInt mg "MOST_PLACES" 16
section
variable {P : Program} {w : World} {K : PySem.W.Frag} {mg : Str → Option Value} {base : Heap}
theorem ok_cell (T : Txt K mg) (D : DefAt K mg "_law_cell" s__law_cell ["_law_script", "_law_k"]) : CalG P w K mg base 1 "_law_cell" (spCell K) := by
  refine D.cal sc__law_cell (fun vs H Q E h => ?_) (fun f cdv A outer s H vs Q E hG hr h => ?_)
  · obtain ⟨a, ns, k, rfl, _⟩ := h
    rfl
  · obtain ⟨a, ns, k, rfl, hS, hl, hk, q⟩ := h
    refine ⟨_, (pss_cons (ps_if (pt_cmpR op_lt (pv 1) (pe_callB call_len (by rfl) T.b_len boot_len_ (pa_cons (pv 0) pa_nil)) (nomark _))
          (pss_one (ps_ret (pe_ix ix_list (pv 0) (pv 1) (fun _ _ => rfl)))) pss_nil)
      (pss_one (ps_ret (pe_op op_add (pe_op op_mul pe_int (pv 1)) pe_int)))), ?_⟩
    refine ⟨_, rfl, _, rfl, _, _, rfl, .inl ⟨_, hS, rfl⟩, _, _, rfl, rfl, _, rfl, ?_⟩
    refine ite2 (fun e => ?_) (fun e => ?_)
    · have e2 := of_decide_eq_true e
      rw [List.length_map] at e2
      obtain ⟨n, hn⟩ := atI_ints hk e2
      exact ⟨_, rfl, _, rfl, _, _, _, _, rfl, rfl, hS, hn, q n⟩
    · exact ⟨_, rfl, _, _, rfl, rfl, .inl ⟨by decide, by decide⟩, _, _, rfl, rfl, q _⟩
theorem ok_box (T : Txt K mg) (D : DefAt K mg "_law_box" s__law_box ["_law_cell_here"]) : CalG P w K mg base 1 "_law_box" spBox := by
  refine D.cal sc__law_box (fun vs H Q E h => ?_) (fun f cdv A outer s H vs Q E hG hr h => ?_)
  · obtain ⟨n, rfl, _⟩ := h
    rfl
  · obtain ⟨n, rfl, q⟩ := h
    refine ⟨_, (pss_one (ps_ret (pe_lst (pa_cons (pe_callB (call_max2 rfl) (by rfl) T.b_max boot_max_ (pa_cons pe_int (pa_cons (pe_op op_sub (pv 0) (pe_op op_pow pe_int pe_int)) pa_nil))) (pa_cons (pe_op op_mod (pv 0) pe_int) (pa_cons pe_int pa_nil)))))), ?_⟩
    refine ⟨_, rfl, _, _, rfl, rfl, ⟨by decide, by decide, by decide⟩, _, _, rfl, rfl, _, _, rfl, ?_⟩
    refine ⟨_, rfl, _, _, rfl, rfl, (by show (0 : Int) < 2147483629; decide), ?_⟩
    refine ⟨(by show 3 ≤ sizeLine; decide), fun l hl => ?_⟩
    refine q l _ hl ⟨_, _, _, ?_, ?_, ?_, upd_same⟩ fun c hc => upd_ne hc
    · split <;> omega
    · exact Int.emod_nonneg _ (by decide)
    · exact Int.emod_lt_of_pos _ (by decide)
theorem ok_take (T : Txt K mg) (D : DefAt K mg "_law_take" s__law_take ["_law_box_here", "_law_many"]) : CalG P w K mg base 1 "_law_take" spTake := by
  refine D.cal sc__law_take (fun vs H Q E h => ?_) (fun f cdv A outer s H vs Q E hG hr h => ?_)
  · obtain ⟨b, m, rfl, _⟩ := h
    rfl
  · obtain ⟨b, m, rfl, hB, hm0, hm1, q⟩ := h
    obtain ⟨x, y, z, hx, hy0, hy1, hb⟩ := hB
    have hS := SqL.of (K := K) hb
    refine ⟨_, (pss_cons (ps_if (pt_cmpR op_gt (pe_ix ix_list (pv 0) pe_int (fun _ _ => rfl)) pe_int (nomark _))
          (pss_cons (ps_set (i := 2) sc__law_take.nd rfl (Or.inl rfl) (pe_op op_mod (pe_ix ix_list (pv 0) pe_int (fun _ _ => rfl)) (pv 1)))
          (pss_cons (ps_asg (pe_op op_fdiv (pe_ix ix_list (pv 0) pe_int (fun _ _ => rfl)) (pv 1)) (pg_sub (pv 0) pe_int set_list))
          (pss_one (ps_ret (pv 2))))) pss_nil)
      (pss_cons (ps_asg (pe_op op_add (pe_ix ix_list (pv 0) pe_int (fun _ _ => rfl)) pe_int) (pg_sub (pv 0) pe_int set_list))
      (pss_cons (ps_set (i := 3) sc__law_take.nd rfl (Or.inl rfl) (pe_op op_mod (pe_op op_mul (pe_op op_add (pe_ix ix_list (pv 0) pe_int (fun _ _ => rfl)) pe_int) (pe_op op_add (pe_op op_mul pe_int (pe_ix ix_list (pv 0) pe_int (fun _ _ => rfl))) pe_int)) pe_int))
      (pss_cons (ps_set (i := 3) sc__law_take.nd rfl (Or.inl rfl) (pe_op op_mod (pe_op op_pow (pv 3) pe_int) pe_int))
      (pss_one (ps_ret (pe_op op_mod (pe_op op_fdiv (pe_op op_mod (pe_op op_pow (pe_op op_add (pv 3) (pe_op op_fdiv (pe_ix ix_list (pv 0) pe_int (fun _ _ => rfl)) pe_int)) pe_int) pe_int) pe_int) (pv 1)))))))), ?_⟩
    refine ⟨_, rfl, _, _, _, _, rfl, rfl, hS, rfl, _, _, rfl, rfl, _, rfl, ?_⟩
    refine ite2 (fun e => ?_) (fun e => ?_)
    · have e2 := of_decide_eq_true e
      refine ⟨_, rfl, _, _, _, _, rfl, rfl, hS, rfl, _, rfl, _, _, rfl, rfl, hm0, ?_⟩
      refine ⟨_, rfl, _, _, _, _, rfl, rfl, hS, rfl, _, rfl, _, _, rfl, rfl, ⟨hm0, by omega⟩, ?_⟩
      refine ⟨_, rfl, _, _, _, _, rfl, rfl, hb, rfl, ?_⟩
      refine ⟨_, rfl, ?_⟩
      refine q _ _ (Int.emod_nonneg _ (by omega)) (Int.emod_lt_of_pos _ hm0) ⟨_, _, _, ?_, hy0, hy1, upd_same⟩ fun c hc => upd_ne hc
      exact Int.ediv_nonneg (by omega) (by omega)
    · refine ⟨_, rfl, _, _, _, _, rfl, rfl, hS, rfl, _, _, rfl, rfl, ?_⟩
      refine ⟨_, rfl, _, _, _, _, rfl, rfl, hb, rfl, ?_⟩
      have hb1 : (upd H b (.lst [.int x, .int y, .int (z + 1)])) b = some (.lst [.int x, .int y, .int (z + 1)]) := upd_same
      have hS1 := SqL.of (K := K) hb1
      refine ⟨_, rfl, _, _, _, _, rfl, rfl, hS1, rfl, _, _, rfl, rfl, ?_⟩
      refine ⟨_, rfl, _, _, _, _, rfl, rfl, hS1, rfl, _, _, rfl, rfl, .inl ⟨by decide, by decide⟩, _, _, rfl, rfl, ?_⟩
      refine ⟨_, _, rfl, rfl, .inl ⟨by omega, by omega⟩, _, _, rfl, rfl, (by show (0 : Int) < 2147483647; decide), ?_⟩
      generalize hA : (y + 31337) * (2 * (z + 1) + 1) % 2147483647 = A
      have a0 : 0 ≤ A := hA ▸ Int.emod_nonneg _ (by decide)
      have a1 : A < 2147483647 := hA ▸ Int.emod_lt_of_pos _ (by decide)
      clear hA
      refine ⟨_, rfl, _, _, rfl, rfl, ⟨by decide, by decide, by omega⟩, _, _, rfl, rfl, (by show (0 : Int) < 2147483629; decide), ?_⟩
      show _
      generalize hB : A ^ (5 : Int).toNat % 2147483629 = B
      have b0 : 0 ≤ B := hB ▸ Int.emod_nonneg _ (by decide)
      have b1 : B < 2147483629 := hB ▸ Int.emod_lt_of_pos _ (by decide)
      clear hB
      refine ⟨_, rfl, _, rfl, _, _, _, _, rfl, rfl, hS1, rfl, _, _, rfl, rfl, ⟨by decide, by decide⟩, _, _, rfl, rfl, ?_⟩
      have c0 : 0 ≤ y / 65536 := Int.ediv_nonneg hy0 (by decide)
      have c1 : y / 65536 < 65536 := by omega
      refine ⟨_, _, rfl, rfl, ⟨by decide, by decide, by omega⟩, _, _, rfl, rfl, (by show (0 : Int) < 2147483587; decide), ?_⟩
      refine ⟨_, _, rfl, rfl, ⟨by decide, by decide⟩, ?_⟩
      refine ⟨_, rfl, _, _, rfl, rfl, hm0, ?_⟩
      exact q _ _ (Int.emod_nonneg _ (by omega)) (Int.emod_lt_of_pos _ hm0) ⟨_, _, _, hx, hy0, hy1, upd_same⟩ fun c hc => upd_ne hc
/-! ### numbers and things -/
def Big (n : Int) : Prop := -(10 ^ 39) ≤ n ∧ n ≤ 10 ^ 39
def spNumber : Sp := fun vs H Q _ => ∃ b : Addr, vs = [.ref b] ∧ BoxAt H b ∧ ∀ (n : Int) (H' : Hp), Big n → BoxAt H' b → Kp b H H' → Q (.int n) H'
theorem pick {l : Addr} {H : Hp} {xs : List V} (hl : H l = some (.lst xs)) {k : Int} (h0 : 0 ≤ k) (h1 : k < xs.length) : ∃ v, v ∈ xs ∧ atI xs k = some v := by
  obtain ⟨j, rfl⟩ : ∃ j : Nat, k = j := ⟨k.toNat, by omega⟩
  have hj : j < xs.length := by omega
  exact ⟨xs[j], List.getElem_mem hj, atI_nat (List.getElem?_eq_getElem hj)⟩
theorem pickL (xs : List V) {k : Int} (h0 : 0 ≤ k) (h1 : k < xs.length) : ∃ v, v ∈ xs ∧ atI xs k = some v := pick (l := 0) (H := upd (fun _ => none) 0 (.lst xs)) upd_same h0 h1
theorem ok_number (c__law_take : CalG P w K mg base 1 "_law_take" spTake) (D : DefAt K mg "_law_number" s__law_number ["_law_box_here"]) :
    CalG P w K mg base 2 "_law_number" spNumber := by
  refine D.cal sc__law_number (fun vs H Q E h => ?_) (fun f cdv A outer s H vs Q E hG hr h => ?_)
  · obtain ⟨b, rfl, _⟩ := h
    rfl
  · obtain ⟨b, rfl, hB, q⟩ := h
    refine ⟨_, (pss_cons (ps_set (i := 1) sc__law_number.nd rfl (Or.inl rfl) (pe_op op_sub (pe_op op_pow pe_int pe_int) pe_int))
      (pss_cons (ps_set (i := 2) sc__law_number.nd rfl (Or.inl rfl) (pe_g c__law_take hG (hr.mono (by decide)) (by rfl) (pa_cons (pv 0) (pa_cons pe_int pa_nil))))
      (pss_cons (ps_if (pt_cmpR op_eq (pv 2) pe_int (nomark _))
          (pss_one (ps_ret (pe_ix ix_list (pe_lst (pa_cons (pv 1) (pa_cons (pe_op op_sub pe_int (pv 1)) (pa_cons (pe_op op_add (pv 1) pe_int) (pa_cons (pe_op op_sub (pe_op op_sub pe_int (pv 1)) pe_int) (pa_cons (pe_op op_pow pe_int pe_int) (pa_cons pe_int pa_nil))))))) (pe_g c__law_take hG (hr.mono (by decide)) (by rfl) (pa_cons (pv 0) (pa_cons pe_int pa_nil))) (fun _ _ => rfl)))) pss_nil)
      (pss_cons (ps_if (pt_cmpR op_eq (pv 2) pe_int (nomark _))
          (pss_one (ps_ret (pe_op op_mul (pe_op op_add (pe_op op_mul (pe_g c__law_take hG (hr.mono (by decide)) (by rfl) (pa_cons (pv 0) (pa_cons (pe_op op_pow pe_int pe_int) pa_nil))) (pe_op op_pow pe_int pe_int)) (pe_g c__law_take hG (hr.mono (by decide)) (by rfl) (pa_cons (pv 0) (pa_cons (pe_op op_pow pe_int pe_int) pa_nil)))) (pe_ix ix_list (pe_lst (pa_cons pe_int (pa_cons (pe_un un_neg pe_int) pa_nil))) (pe_g c__law_take hG (hr.mono (by decide)) (by rfl) (pa_cons (pv 0) (pa_cons pe_int pa_nil))) (fun _ _ => rfl))))) pss_nil)
      (pss_one (ps_ret (pe_op op_sub (pe_g c__law_take hG (hr.mono (by decide)) (by rfl) (pa_cons (pv 0) (pa_cons pe_int pa_nil))) pe_int))))))), ?_⟩
    refine ⟨_, _, rfl, rfl, ⟨by decide, by decide, by decide⟩, _, _, rfl, rfl, ?_⟩
    refine ⟨_, rfl, b, 6, rfl, hB, by decide, by decide, fun d H1 d0 d1 hB1 k1 => ?_⟩
    refine ⟨_, rfl, rfl, _, rfl, ite2 (fun _ => ?_) fun _ => ?_⟩
    · refine ⟨_, rfl, _, rfl, _, _, rfl, rfl, _, rfl, _, _, rfl, rfl, _, rfl, _, _, rfl, rfl, _, _, rfl, rfl, _, _, rfl, rfl, ⟨by decide, by decide, by decide⟩, ?_⟩
      refine ⟨(by show 6 ≤ sizeLine; decide), fun l hl => ?_⟩
      refine ⟨_, rfl, b, 6, rfl, hB1.upd hl, by decide, by decide, fun d2 H3 e0 e1 hB3 k3 => ?_⟩
      have hl3 := (k3 l (hB1.ne hl)).trans upd_same
      obtain ⟨v, hv, hat⟩ := pick hl3 e0 (by show d2 < ((6 : Nat) : Int); omega)
      have hn : ∃ n, v = .int n ∧ Big n := by
        simp only [List.mem_cons, List.not_mem_nil, or_false] at hv
        rcases hv with rfl | rfl | rfl | rfl | rfl | rfl
        all_goals exact ⟨_, rfl, by decide, by decide⟩
      obtain ⟨n, rfl, hn⟩ := hn
      exact ⟨l, _, d2, _, rfl, rfl, SqL.of hl3, hat, q n H3 hn hB3 ((kp_of k1).trans ((Kp.refl.upd hl).trans (kp_of k3)))⟩
    · refine ⟨_, rfl, rfl, _, rfl, ite2 (fun _ => ?_) fun _ => ?_⟩
      · refine ⟨_, rfl, _, _, rfl, rfl, ⟨by decide, by decide, by decide⟩, b, _, rfl, hB1, by decide, by decide, fun d2 H2 e0 e1 hB2 k2 => ?_⟩
        refine ⟨_, _, rfl, rfl, ⟨by decide, by decide, by decide⟩, ?_⟩
        have e1' : d2 < 100000000 := e1
        refine ⟨_, _, rfl, rfl, .inl ⟨by omega, by omega⟩, ?_⟩
        refine ⟨_, rfl, _, _, rfl, rfl, ⟨by decide, by decide, by decide⟩, b, _, rfl, hB2, by decide, by decide, fun d3 H3 f0 f1 hB3 k3 => ?_⟩
        have f1' : d3 < 100000000 := f1
        refine ⟨_, _, rfl, rfl, ?_⟩
        refine ⟨_, rfl, (by show 2 ≤ sizeLine; decide), fun l hl => ?_⟩
        refine ⟨_, rfl, b, 2, rfl, hB3.upd hl, by decide, by decide, fun d4 H4 g0 g1 hB4 k4 => ?_⟩
        have hl4 := (k4 l (hB3.ne hl)).trans upd_same
        have hK : Kp b H H4 := (kp_of k1).trans ((kp_of k2).trans ((kp_of k3).trans ((Kp.refl.upd hl).trans (kp_of k4))))
        have hp : (10 : Int) ^ (22 : Int).toNat = 10000000000000000000000 := by decide
        have hq : (10 : Int) ^ 39 = 1000000000000000000000000000000000000000 := by decide
        have hd : d4 = 0 ∨ d4 = 1 := by omega
        rcases hd with rfl | rfl
        · refine ⟨l, _, 0, .int 1, rfl, rfl, SqL.of hl4, rfl, _, _, rfl, rfl, .inr ⟨by decide, by decide⟩, q _ H4 ?_ hB4 hK⟩
          unfold Big
          rw [hp, hq]
          constructor <;> omega
        · refine ⟨l, _, 1, .int (-1), rfl, rfl, SqL.of hl4, rfl, _, _, rfl, rfl, .inr ⟨by decide, by decide⟩, q _ H4 ?_ hB4 hK⟩
          unfold Big
          rw [hp, hq]
          constructor <;> omega
      · refine ⟨_, rfl, b, 41, rfl, hB1, by decide, by decide, fun d2 H2 e0 e1 hB2 k2 => ?_⟩
        refine ⟨_, _, rfl, rfl, q _ H2 ?_ hB2 ((kp_of k1).trans (kp_of k2))⟩
        have hq : (10 : Int) ^ 39 = 1000000000000000000000000000000000000000 := by decide
        unfold Big
        rw [hq]
        constructor <;> omega
/-! ### things -/
inductive Fl : V → Prop
  | non : Fl .non
  | bl (x : Bool) : Fl (.bl x)
  | str (x : Str) (h : x.length ≤ 4) (h2 : (reprText x).length ≤ 100) : Fl (.str x)
  | int (n : Int) (h : Big n) : Fl (.int n)
inductive Th (H : Hp) (b : Addr) : V → Prop
  | fl {v : V} (h : Fl v) : Th H b v
  | emp {a : Addr} (n : a ≠ b) (h : H a = some (.dK [])) : Th H b (.ref a)
  | lst {a : Addr} {xs : List V} (n : a ≠ b) (h : H a = some (.lst xs)) (l : xs.length ≤ 18) (i : ∀ v ∈ xs, Fl v) : Th H b (.ref a)
  | tup {a : Addr} {xs : List V} (n : a ≠ b) (h : H a = some (.tup xs)) (l : xs.length ≤ 18) (i : ∀ v ∈ xs, Fl v) : Th H b (.ref a)
theorem Th.kp {H H' : Hp} {b : Addr} {v : V} (h : Th H b v) (k : Kp b H H') : Th H' b v := by
  cases h with
  | fl h => exact .fl h
  | emp n h => exact .emp n (k _ _ n h)
  | lst n h l i => exact .lst n (k _ _ n h) l i
  | tup n h l i => exact .tup n (k _ _ n h) l i
/-- a thing, or a list or a tuple of things -/
inductive Rw (H : Hp) (b : Addr) : V → Prop
  | th {v : V} (h : Th H b v) : Rw H b v
  | lst {a : Addr} {xs : List V} (n : a ≠ b) (h : H a = some (.lst xs)) (l : xs.length ≤ 18) (i : ∀ v ∈ xs, Th H b v) : Rw H b (.ref a)
  | tup {a : Addr} {xs : List V} (n : a ≠ b) (h : H a = some (.tup xs)) (l : xs.length ≤ 18) (i : ∀ v ∈ xs, Th H b v) : Rw H b (.ref a)
theorem Rw.kp {H H' : Hp} {b : Addr} {v : V} (h : Rw H b v) (k : Kp b H H') : Rw H' b v := by
  cases h with
  | th h => exact .th (h.kp k)
  | lst n h l i => exact .lst n (k _ _ n h) l fun v hv => (i v hv).kp k
  | tup n h l i => exact .tup n (k _ _ n h) l fun v hv => (i v hv).kp k
theorem kep {H : Hp} {p q : Addr} {o u : HO} (h : H p = some o) (n : H q = none) : (upd H q u) p = some o := by
  rw [upd_ne (ne_of_none h n)]
  exact h
theorem upd_none {H : Hp} {p q : Addr} {o : HO} (h : upd H p o q = none) : H q = none := by
  unfold upd at h
  split at h
  · cases h
  · exact h
def spThing : Sp := fun vs H Q _ => ∃ b : Addr, vs = [.ref b] ∧ BoxAt H b ∧ ∀ (v : V) (H' : Hp), Th H' b v → (∀ a, v = .ref a → H a = none) → BoxAt H' b → Kp b H H' → Q v H'
theorem ok_thing (c__law_take : CalG P w K mg base 1 "_law_take" spTake) (c__law_number : CalG P w K mg base 2 "_law_number" spNumber)
    (D : DefAt K mg "_law_thing" s__law_thing ["_law_box_here"]) : CalG P w K mg base 3 "_law_thing" spThing := by
  refine D.cal sc__law_thing (fun vs H Q E h => ?_) (fun f cdv A outer s H vs Q E hG hr h => ?_)
  · obtain ⟨b, rfl, _⟩ := h
    rfl
  · obtain ⟨b, rfl, hB, q⟩ := h
    refine ⟨_, (pss_cons (ps_set (i := 1) sc__law_thing.nd rfl (Or.inl rfl) (pe_g c__law_take hG (hr.mono (by decide)) (by rfl) (pa_cons (pv 0) (pa_cons pe_int pa_nil))))
      (pss_cons (ps_set (i := 2) sc__law_thing.nd rfl (Or.inl rfl) (pe_lst (pa_cons pe_non (pa_cons pe_bl (pa_cons pe_bl (pa_cons pe_str (pa_cons pe_str (pa_cons (pe_lst pa_nil) (pa_cons (pe_tup pa_nil) (pa_cons pe_dnewK (pa_cons (pe_lst (pa_cons pe_int pa_nil)) (pa_cons (pe_tup (pa_cons pe_int pa_nil)) (pa_cons (pe_lst (pa_cons pe_non pa_nil)) (pa_cons pe_str pa_nil))))))))))))))
      (pss_cons (ps_if (pt_cmpR op_lt (pv 1) pe_int (nomark _))
          (pss_one (ps_ret (pe_ix ix_list (pv 2) (pv 1) (fun _ _ => rfl)))) pss_nil)
      (pss_one (ps_ret (pe_g c__law_number hG (hr.mono (by decide)) (by rfl) (pa_cons (pv 0) pa_nil))))))), ?_⟩
    refine ⟨_, rfl, b, 20, rfl, hB, by decide, by decide, fun d H1 d0 d1 hB1 k1 => ?_⟩
    refine ⟨(by show 0 ≤ sizeLine; decide), fun p1 n1 => ?_⟩
    refine ⟨(by show 0 ≤ sizeLine; decide), fun p2 n2 p3 n3 => ?_⟩
    refine ⟨(by show 1 ≤ sizeLine; decide), fun p4 n4 => ?_⟩
    refine ⟨(by show 1 ≤ sizeLine; decide), fun p5 n5 => ?_⟩
    refine ⟨(by show 1 ≤ sizeLine; decide), fun p6 n6 => ?_⟩
    refine ⟨(by show 12 ≤ sizeLine; decide), fun p7 n7 => ?_⟩
    have B2 := hB1.upd (o := .lst []) n1
    have B3 := B2.upd (o := .tup []) n2
    have B4 := B3.upd (o := .dK []) n3
    have B5 := B4.upd (o := .lst [.int 3]) n4
    have B6 := B5.upd (o := .tup [.int 3]) n5
    have B7 := B6.upd (o := .lst [.non]) n6
    have K7 := ((((((Kp.refl (b := b) (H := H1)).upd (o := .lst []) n1).upd (o := .tup []) n2).upd (o := .dK []) n3).upd (o := .lst [.int 3]) n4).upd (o := .tup [.int 3]) n5).upd (o := .lst [.non]) n6
    refine ⟨_, rfl, _, _, rfl, rfl, _, rfl, ite2 (fun e => ?_) fun _ => ?_⟩
    · have e2 := of_decide_eq_true e
      refine ⟨_, rfl, _, rfl, ?_⟩
      obtain ⟨v, hv, hat⟩ := pickL [.non, .bl true, .bl false, .str "", .str "7", .ref p1, .ref p2, .ref p3, .ref p4, .ref p5, .ref p6, .str "-1"] d0 (by show d < ((12 : Nat) : Int); omega)
      refine ⟨p7, _, d, v, rfl, rfl, SqL.of upd_same, hat, q v _ (Th.kp ?_ (Kp.refl.upd n7)) ?_ (B7.upd n7) ((kp_of k1).trans (K7.upd n7))⟩
      rotate_left
      · intro a ha
        subst ha
        simp only [List.mem_cons, List.not_mem_nil, or_false] at hv
        have f1 : ∀ c, c ≠ b → H1 c = none → H c = none := fun c hc z => (k1 c hc).symm.trans z
        rcases hv with z | z | z | z | z | z | z | z | z | z | z | z
        all_goals cases z
        · exact f1 _ (hB1.ne n1) n1
        · exact f1 _ (B2.ne n2) (upd_none n2)
        · exact f1 _ (B3.ne n3) (upd_none (upd_none n3))
        · exact f1 _ (B4.ne n4) (upd_none (upd_none (upd_none n4)))
        · exact f1 _ (B5.ne n5) (upd_none (upd_none (upd_none (upd_none n5))))
        · exact f1 _ (B6.ne n6) (upd_none (upd_none (upd_none (upd_none (upd_none n6)))))
      have o1 : (upd H1 p1 (.lst [])) p1 = some (.lst []) := upd_same
      have big3 : Big 3 := ⟨by decide, by decide⟩
      simp only [List.mem_cons, List.not_mem_nil, or_false] at hv
      rcases hv with rfl | rfl | rfl | rfl | rfl | rfl | rfl | rfl | rfl | rfl | rfl | rfl
      · exact .fl .non
      · exact .fl (.bl _)
      · exact .fl (.bl _)
      · exact .fl (.str _ (by decide +kernel) (by decide +kernel))
      · exact .fl (.str _ (by decide +kernel) (by decide +kernel))
      · exact .lst (hB1.ne n1) (kep (kep (kep (kep (kep upd_same n2) n3) n4) n5) n6) (by decide) (fun v z => nomatch z)
      · exact .tup (B2.ne n2) (kep (kep (kep (kep upd_same n3) n4) n5) n6) (by decide) (fun v z => nomatch z)
      · exact .emp (B3.ne n3) (kep (kep (kep upd_same n4) n5) n6)
      · refine .lst (B4.ne n4) (kep (kep upd_same n5) n6) (by decide) (fun v z => ?_)
        simp only [List.mem_cons, List.not_mem_nil, or_false] at z
        subst z
        exact .int 3 big3
      · refine .tup (B5.ne n5) (kep upd_same n6) (by decide) (fun v z => ?_)
        simp only [List.mem_cons, List.not_mem_nil, or_false] at z
        subst z
        exact .int 3 big3
      · refine .lst (B6.ne n6) upd_same (by decide) (fun v z => ?_)
        simp only [List.mem_cons, List.not_mem_nil, or_false] at z
        subst z
        exact .non
      · exact .fl (.str _ (by decide +kernel) (by decide +kernel))
    · refine ⟨_, rfl, b, rfl, B7.upd n7, fun n H2 hn hB2 k2 => q _ H2 (.fl (.int n hn)) (fun a z => nomatch z) hB2 (((kp_of k1).trans (K7.upd n7)).trans k2)⟩
/-! ### what is a whole number, by both texts -/
def isI : V → Bool
  | .int _ => true
  | .bl _ => true
  | _ => false
def isBl : V → Bool
  | .bl _ => true
  | _ => false
def wholeB (v : V) (lo hi : Int) : Bool := match v with
  | .int n => decide (lo ≤ n) && decide (n ≤ hi)
  | _ => false
def Kn (K : PySem.W.Frag) (H : Hp) (v : V) : Prop := ∃ t, TyX K H v t ∧ PySem.W.kitOne K t (.type "int") = some (isI v) ∧ PySem.W.kitOne K t (.type "bool") = some (isBl v)
theorem ki_NoneType : kitB "NoneType" "int" = some false := by decide +kernel
theorem kb_NoneType : kitB "NoneType" "bool" = some false := by decide +kernel
theorem ki_bool : kitB "bool" "int" = some true := by decide +kernel
theorem kb_bool : kitB "bool" "bool" = some true := by decide +kernel
theorem ki_str : kitB "str" "int" = some false := by decide +kernel
theorem kb_str : kitB "str" "bool" = some false := by decide +kernel
theorem ki_int : kitB "int" "int" = some true := by decide +kernel
theorem kb_int : kitB "int" "bool" = some false := by decide +kernel
theorem ki_dict : kitB "dict" "int" = some false := by decide +kernel
theorem kb_dict : kitB "dict" "bool" = some false := by decide +kernel
theorem ki_list : kitB "list" "int" = some false := by decide +kernel
theorem kb_list : kitB "list" "bool" = some false := by decide +kernel
theorem ki_tuple : kitB "tuple" "int" = some false := by decide +kernel
theorem kb_tuple : kitB "tuple" "bool" = some false := by decide +kernel
theorem kn_of {H : Hp} {b : Addr} {v : V} (h : Th H b v) : Kn K H v := by
  cases h with
  | fl h =>
    cases h with
    | non => exact ⟨_, .base .non, kit_ty ki_NoneType, kit_ty kb_NoneType⟩
    | bl x => exact ⟨_, .base (.bl x), kit_ty ki_bool, kit_ty kb_bool⟩
    | str x _ _ => exact ⟨_, .base (.str x), kit_ty ki_str, kit_ty kb_str⟩
    | int n _ => exact ⟨_, .base (.int n), kit_ty ki_int, kit_ty kb_int⟩
  | emp n h => exact ⟨_, .base (.dK h), kit_ty ki_dict, kit_ty kb_dict⟩
  | lst n h l i => exact ⟨_, .base (.lst h), kit_ty ki_list, kit_ty kb_list⟩
  | tup n h l i => exact ⟨_, .base (.tup h), kit_ty ki_tuple, kit_ty kb_tuple⟩
def spWhole (K : PySem.W.Frag) : Sp := fun vs H Q _ => ∃ (v : V) (lo hi : Int), vs = [v, .int lo, .int hi] ∧ Kn K H v ∧ Q (.bl (wholeB v lo hi)) H
theorem ok_whole (T : Txt K mg) (D : DefAt K mg "is_whole" s_is_whole ["thing", "low", "high"]) : CalG P w K mg base 1 "is_whole" (spWhole K) := by
  refine D.cal sc_is_whole (fun vs H Q E h => ?_) (fun f cdv A outer s H vs Q E hG hr h => ?_)
  · obtain ⟨v, lo, hi, rfl, _⟩ := h
    rfl
  · obtain ⟨v, lo, hi, rfl, ⟨t, ty, k1, k2⟩, q⟩ := h
    refine ⟨_, (pss_one (ps_ret (pe_and (pe_callB call_isi (by rfl) T.b_isinstance boot_isinstance_ (pa_cons (pv 0) (pa_cons (pe_bltn (v := .ty "int") (by rfl) T.t_int boot_int_ rfl) pa_nil))) (pe_and (pe_not (pe_callB call_isi (by rfl) T.b_isinstance boot_isinstance_ (pa_cons (pv 0) (pa_cons (pe_bltn (v := .ty "bool") (by rfl) T.t_bool boot_bool_ rfl) pa_nil)))) (pe_one (pe_chain op_le op_le (pv 1) (pv 0) (pv 2))))))), ?_⟩
    refine ⟨_, rfl, v, .ty "int", t, .type "int", isI v, rfl, .ty _, ty, k1, _, rfl, ?_⟩
    cases v with
    | int n =>
      refine iteT ?_
      refine ⟨_, rfl, _, .ty "bool", t, .type "bool", false, rfl, .ty _, ty, k2, _, rfl, _, rfl, ?_⟩
      refine iteT ?_
      refine ⟨_, rfl, _, rfl, _, _, rfl, rfl, _, rfl, ?_⟩
      by_cases hl : lo ≤ n
      · rw [if_pos (decide_eq_true hl)]
        refine ⟨_, rfl, _, _, rfl, rfl, ?_⟩
        have e : wholeB (.int n) lo hi = decide (n ≤ hi) := by
          show (decide (lo ≤ n) && decide (n ≤ hi)) = _
          rw [decide_eq_true hl, Bool.true_and]
        rw [e] at q
        exact q
      · rw [if_neg (fun z => hl (of_decide_eq_true z))]
        have e : wholeB (.int n) lo hi = false := by
          show (decide (lo ≤ n) && decide (n ≤ hi)) = _
          rw [decide_eq_false hl, Bool.false_and]
        rw [e] at q
        exact q
    | bl x =>
      refine iteT ?_
      refine ⟨_, rfl, _, .ty "bool", t, .type "bool", true, rfl, .ty _, ty, k2, _, rfl, _, rfl, ?_⟩
      exact iteF q
    | non => exact iteF q
    | str x => exact iteF q
    | byt x => exact iteF q
    | flt x => exact iteF q
    | ref x => exact iteF q
    | ty x => exact iteF q
theorem ok_lawis (T : Txt K mg) (D : DefAt K mg "_law_is" s__law_is ["_law_thing_here", "_law_low", "_law_high"]) : CalG P w K mg base 1 "_law_is" (spWhole K) := by
  refine D.cal sc__law_is (fun vs H Q E h => ?_) (fun f cdv A outer s H vs Q E hG hr h => ?_)
  · obtain ⟨v, lo, hi, rfl, _⟩ := h
    rfl
  · obtain ⟨v, lo, hi, rfl, ⟨t, ty, k1, k2⟩, q⟩ := h
    refine ⟨_, (pss_cons (ps_if (PW.pt (pw_or (pt_cmpR op_isB (pv 0) pe_bl (nomark _)) (pw_or (pt_cmpR op_isB (pv 0) pe_bl (nomark _)) (pw_or1 (pt_not (pt_val (pe_callB call_isi (by rfl) T.b_isinstance boot_isinstance_ (pa_cons (pv 0) (pa_cons (pe_bltn (v := .ty "int") (by rfl) T.t_int boot_int_ rfl) pa_nil)))))))))
          (pss_one (ps_ret pe_bl)) pss_nil)
      (pss_one (ps_ret (pe_chain op_le op_le (pv 1) (pv 0) (pv 2))))), ?_⟩
    refine ⟨_, rfl, true, rfl, _, rfl, ?_⟩
    cases v with
    | int n =>
      refine iteF ⟨_, rfl, false, rfl, _, rfl, iteF ⟨_, rfl, _, .ty "int", t, .type "int", true, rfl, .ty _, ty, k1, _, rfl, ?_⟩⟩
      refine iteF ?_
      refine ⟨_, rfl, _, rfl, _, _, rfl, rfl, _, rfl, ?_⟩
      by_cases hl : lo ≤ n
      · rw [if_pos (decide_eq_true hl)]
        refine ⟨_, rfl, _, _, rfl, rfl, ?_⟩
        have e : wholeB (.int n) lo hi = decide (n ≤ hi) := by
          show (decide (lo ≤ n) && decide (n ≤ hi)) = _
          rw [decide_eq_true hl, Bool.true_and]
        rw [e] at q
        exact q
      · rw [if_neg (fun z => hl (of_decide_eq_true z))]
        have e : wholeB (.int n) lo hi = false := by
          show (decide (lo ≤ n) && decide (n ≤ hi)) = _
          rw [decide_eq_false hl, Bool.false_and]
        rw [e] at q
        exact q
    | bl x =>
      cases x with
      | true => exact iteT (iteT q)
      | false => exact iteF ⟨_, rfl, false, rfl, _, rfl, iteT (iteT q)⟩
    | non => exact iteF ⟨_, rfl, false, rfl, _, rfl, iteF ⟨_, rfl, _, .ty "int", t, .type "int", false, rfl, .ty _, ty, k1, _, rfl, iteT q⟩⟩
    | str x => exact iteF ⟨_, rfl, false, rfl, _, rfl, iteF ⟨_, rfl, _, .ty "int", t, .type "int", false, rfl, .ty _, ty, k1, _, rfl, iteT q⟩⟩
    | byt x => exact iteF ⟨_, rfl, false, rfl, _, rfl, iteF ⟨_, rfl, _, .ty "int", t, .type "int", false, rfl, .ty _, ty, k1, _, rfl, iteT q⟩⟩
    | flt x => exact iteF ⟨_, rfl, false, rfl, _, rfl, iteF ⟨_, rfl, _, .ty "int", t, .type "int", false, rfl, .ty _, ty, k1, _, rfl, iteT q⟩⟩
    | ref x => exact iteF ⟨_, rfl, false, rfl, _, rfl, iteF ⟨_, rfl, _, .ty "int", t, .type "int", false, rfl, .ty _, ty, k1, _, rfl, iteT q⟩⟩
    | ty x => exact iteF ⟨_, rfl, false, rfl, _, rfl, iteF ⟨_, rfl, _, .ty "int", t, .type "int", false, rfl, .ty _, ty, k1, _, rfl, iteT q⟩⟩
def top30 : Int := 10 ^ 30 - 1
def worthB (v : V) : Bool := wholeB v (-top30) top30
def spWorth (K : PySem.W.Frag) : Sp := fun vs H Q _ => ∃ v : V, vs = [v] ∧ Kn K H v ∧ Q (.bl (worthB v)) H
theorem ok_worth (T : Txt K mg) (c_is_whole : CalG P w K mg base 1 "is_whole" (spWhole K)) (D : DefAt K mg "is_worth" s_is_worth ["thing"]) : CalG P w K mg base 2 "is_worth" (spWorth K) := by
  refine D.cal sc_is_worth (fun vs H Q E h => ?_) (fun f cdv A outer s H vs Q E hG hr h => ?_)
  · obtain ⟨v, rfl, _⟩ := h
    rfl
  · obtain ⟨v, rfl, kn, q⟩ := h
    refine ⟨_, (pss_one (ps_ret (pe_g c_is_whole hG (hr.mono (by decide)) (by rfl) (pa_cons (pv 0) (pa_cons (pe_un un_neg (pe_gi rfl T.g_MOST_WORTH)) (pa_cons (pe_gi rfl T.g_MOST_WORTH) pa_nil)))))), ?_⟩
    exact ⟨_, rfl, _, rfl, v, _, _, rfl, kn, q⟩
/-! ### what are the worths of a row, by both texts -/
def worthsB (xs : List V) : Bool := decide (1 ≤ xs.length) && decide (xs.length ≤ 16) && xs.all worthB
def isLT (K : PySem.W.Frag) (H : Hp) (v : V) (r : Bool) : Prop := ∀ H', Same H H' → ∃ t, TyX K H' v t ∧ PySem.W.kitAny K t [.type "list", .type "tuple"] = some r
def spWorths (K : PySem.W.Frag) : Sp := fun vs H Q _ => ∃ v : V, vs = [v] ∧
  ((isLT K H v false ∧ ∀ H', Same H H' → Q (.bl false) H') ∨
   (isLT K H v true ∧ ∃ (a : Addr) (xs : List V), v = .ref a ∧ xs.length ≤ 18 ∧ (H a = some (.lst xs) ∨ H a = some (.tup xs)) ∧
     (∀ x ∈ xs, ∀ H', Same H H' → Kn K H' x) ∧ ∀ H', Same H H' → Q (.bl (worthsB xs)) H'))
theorem same_new {H : Hp} {p : Addr} {o : HO} (h : H p = none) : Same H (upd H p o) := fun b x e => by
  rw [upd_ne (ne_of_none e h)]
  exact e
theorem clsLT : Paired ClsV [.ty "list", .ty "tuple"] [.type "list", .type "tuple"] := .cons (.ty _) (.cons (.ty _) .nil)
theorem worths_long {xs : List V} (h : ¬ (1 ≤ xs.length ∧ xs.length ≤ 16)) : worthsB xs = false := by
  unfold worthsB
  by_cases h1 : 1 ≤ xs.length
  · have h2 : ¬ xs.length ≤ 16 := fun z => h ⟨h1, z⟩
    rw [decide_eq_false h2, Bool.and_false, Bool.false_and]
  · rw [decide_eq_false h1, Bool.false_and, Bool.false_and]
theorem worths_all {xs : List V} (h1 : 1 ≤ xs.length) (h2 : xs.length ≤ 16) : worthsB xs = xs.all worthB := by
  unfold worthsB
  rw [decide_eq_true h1, decide_eq_true h2, Bool.true_and, Bool.true_and]
theorem take_succ_map {xs : List V} {i : Nat} {x : V} (h : xs[i]? = some x) : (xs.take (i + 1)).map (fun v => V.bl (worthB v)) = (xs.take i).map (fun v => V.bl (worthB v)) ++ [V.bl (worthB x)] := by
  rw [List.take_add_one, h, List.map_append]
  rfl
theorem maps {xs : List V} : xs.map (fun v => V.bl (worthB v)) = (xs.map worthB).map V.bl := by
  rw [List.map_map]
  rfl
theorem ok_worths (T : Txt K mg) (c_is_worth : CalG P w K mg base 2 "is_worth" (spWorth K)) (D : DefAt K mg "is_worths" s_is_worths ["thing"]) : CalG P w K mg base 3 "is_worths" (spWorths K) := by
  refine D.cal sc_is_worths (fun vs H Q E h => ?_) (fun f cdv A outer s H vs Q E hG hr h => ?_)
  · obtain ⟨v, rfl, _⟩ := h
    rfl
  · obtain ⟨v, rfl, h | h⟩ := h
    · obtain ⟨ty, q⟩ := h
      refine ⟨_, (pss_cons (ps_if (PW.pt (pw_or (pt_not (pt_val (pe_callB call_isiT (by rfl) T.b_isinstance boot_isinstance_ (pa_cons (pv 0) (pa_cons (pe_tup (pa_cons (pe_bltn (v := .ty "list") (by rfl) T.t_list boot_list_ rfl) (pa_cons (pe_bltn (v := .ty "tuple") (by rfl) T.t_tuple boot_tuple_ rfl) pa_nil))) pa_nil))))) (pw_or1 (pt_not (pt_chain op_le op_le pe_int (pe_callB call_len (by rfl) T.b_len boot_len_ (pa_cons (pv 0) pa_nil)) (pe_gi rfl T.g_MOST_PLACES))))))
          (pss_one (ps_ret pe_bl)) pss_nil)
      (pss_one (ps_ret (pe_callB (cr_all rfl) (by rfl) T.b_all boot_all_ (pa_cons (pe_lc (own := [("worth", 1)]) (g := gName 1) (tt := tYes) rfl sc_is_worths.nd (pi_list (pv 0)) (blkOk_by (own := [("worth", 1)]) (N := ["thing", "worth"]) (sc := defScope s_is_worths) (by decide +kernel)) (fun _ _ _ _ _ => pg_name (i := 1) sc_is_worths.nd rfl (Or.inl rfl)) (fun _ _ _ _ _ => pts_nil) (fun _ _ _ _ _ => (pe_g c_is_worth hG (hr.mono (by decide)) (by rfl) (pa_cons (pv 1) pa_nil)))) pa_nil))))), ?_⟩
      refine ⟨_, rfl, (by show 2 ≤ sizeLine; decide), fun p hp => ?_⟩
      have sm : Same H (upd H p (.tup [.ty "list", .ty "tuple"])) := same_new hp
      obtain ⟨t, ty, k⟩ := ty _ sm
      exact ⟨v, p, _, t, _, false, rfl, upd_same, clsLT, ty, k, _, rfl, iteT (iteT (q _ sm))⟩
    · obtain ⟨ty, a, xs, rfl, hlen, hx, kn, q⟩ := h
      rcases hx with hx | hx
      · refine ⟨_, (pss_cons (ps_if (PW.pt (pw_or (pt_not (pt_val (pe_callB call_isiT (by rfl) T.b_isinstance boot_isinstance_ (pa_cons (pv 0) (pa_cons (pe_tup (pa_cons (pe_bltn (v := .ty "list") (by rfl) T.t_list boot_list_ rfl) (pa_cons (pe_bltn (v := .ty "tuple") (by rfl) T.t_tuple boot_tuple_ rfl) pa_nil))) pa_nil))))) (pw_or1 (pt_not (pt_chain op_le op_le pe_int (pe_callB call_len (by rfl) T.b_len boot_len_ (pa_cons (pv 0) pa_nil)) (pe_gi rfl T.g_MOST_PLACES))))))
          (pss_one (ps_ret pe_bl)) pss_nil)
      (pss_one (ps_ret (pe_callB (cr_all rfl) (by rfl) T.b_all boot_all_ (pa_cons (pe_lc (own := [("worth", 1)]) (g := gName 1) (tt := tYes) rfl sc_is_worths.nd (pi_list (pv 0)) (blkOk_by (own := [("worth", 1)]) (N := ["thing", "worth"]) (sc := defScope s_is_worths) (by decide +kernel)) (fun _ _ _ _ _ => pg_name (i := 1) sc_is_worths.nd rfl (Or.inl rfl)) (fun _ _ _ _ _ => pts_nil) (fun _ _ _ _ _ => (pe_g c_is_worth hG (hr.mono (by decide)) (by rfl) (pa_cons (pv 1) pa_nil)))) pa_nil))))), ?_⟩
        refine ⟨_, rfl, (by show 2 ≤ sizeLine; decide), fun p hp => ?_⟩
        have sm : Same H (upd H p (.tup [.ty "list", .ty "tuple"])) := same_new hp
        have hp1 : (upd H p (.tup [.ty "list", .ty "tuple"])) p = some (.tup [.ty "list", .ty "tuple"]) := upd_same
        generalize upd H p (.tup [.ty "list", .ty "tuple"]) = H1 at *
        obtain ⟨t, ty, k⟩ := ty _ sm
        refine ⟨_, p, _, t, _, true, rfl, hp1, clsLT, ty, k, _, rfl, iteF ?_⟩
        have hx1 := sm _ _ hx
        refine ⟨_, rfl, .ref a, xs.length, rfl, .inl ⟨_, SqL.of hx1, rfl⟩, _, _, rfl, rfl, _, rfl, ?_⟩
        by_cases h1 : 1 ≤ xs.length
        · have d1 : decide ((1 : Int) ≤ (xs.length : Nat)) = true := decide_eq_true (by omega)
          rw [if_pos d1]
          refine ⟨_, _, rfl, rfl, _, rfl, ?_⟩
          by_cases h2 : xs.length ≤ 16
          · have d2 : decide (((xs.length : Nat) : Int) ≤ 16) = true := decide_eq_true (by omega)
            rw [d2]
            refine iteF ?_
            refine ⟨_, rfl, a, rfl, ⟨_, SqL.of hx1⟩, fun D hD => ?_⟩
            refine lc_list (K := K) (a := a) (xs := xs) (fun i H' => Same H1 H' ∧ H' D = some (.lst ((xs.take i).map fun v => V.bl (worthB v)))) ⟨same_new hD, upd_same⟩
              (fun i H' _ hP => SqL.of (hP.1 _ _ hx1)) (fun i x H' hi hP => ?_) (fun H' hP => ?_)
            · have hm := List.mem_of_getElem? hi
              refine ⟨rfl, ?_⟩
              refine ⟨x, rfl, x, rfl, kn x hm H' (sm.trans hP.1), _, hP.2, ?_, ?_, ?_⟩
              · rw [List.length_map, List.length_take]
                exact Nat.lt_of_le_of_lt (Nat.min_le_right _ _) (small1000 (by omega))
              · intro c o hc
                have h3 := hP.1 c o hc
                rw [upd_ne (ne_of_none hc hD)]
                exact h3
              · rw [upd_same, take_succ_map hi]
            · have hD2 := hP.2
              rw [List.take_length, maps] at hD2
              refine ⟨D, xs.map worthB, rfl, SqL.of hD2, ?_⟩
              have e : (xs.map worthB).all id = worthsB xs := by
                rw [worths_all h1 h2, List.all_map]
                rfl
              rw [e]
              exact q _ (sm.trans hP.1)
          · have d2 : decide (((xs.length : Nat) : Int) ≤ 16) = false := decide_eq_false (by omega)
            rw [d2]
            refine iteT ?_
            have z := q _ sm
            rw [worths_long (fun z => h2 z.2)] at z
            exact z
        · have d1 : ¬ decide ((1 : Int) ≤ (xs.length : Nat)) = true := fun z => h1 (by have := of_decide_eq_true z; omega)
          rw [if_neg d1]
          refine ⟨_, rfl, iteT ?_⟩
          have z := q _ sm
          rw [worths_long (fun z => h1 z.1)] at z
          exact z
      · refine ⟨_, (pss_cons (ps_if (PW.pt (pw_or (pt_not (pt_val (pe_callB call_isiT (by rfl) T.b_isinstance boot_isinstance_ (pa_cons (pv 0) (pa_cons (pe_tup (pa_cons (pe_bltn (v := .ty "list") (by rfl) T.t_list boot_list_ rfl) (pa_cons (pe_bltn (v := .ty "tuple") (by rfl) T.t_tuple boot_tuple_ rfl) pa_nil))) pa_nil))))) (pw_or1 (pt_not (pt_chain op_le op_le pe_int (pe_callB call_len (by rfl) T.b_len boot_len_ (pa_cons (pv 0) pa_nil)) (pe_gi rfl T.g_MOST_PLACES))))))
          (pss_one (ps_ret pe_bl)) pss_nil)
      (pss_one (ps_ret (pe_callB (cr_all rfl) (by rfl) T.b_all boot_all_ (pa_cons (pe_lc (own := [("worth", 1)]) (g := gName 1) (tt := tYes) rfl sc_is_worths.nd (pi_tup (pv 0)) (blkOk_by (own := [("worth", 1)]) (N := ["thing", "worth"]) (sc := defScope s_is_worths) (by decide +kernel)) (fun _ _ _ _ _ => pg_name (i := 1) sc_is_worths.nd rfl (Or.inl rfl)) (fun _ _ _ _ _ => pts_nil) (fun _ _ _ _ _ => (pe_g c_is_worth hG (hr.mono (by decide)) (by rfl) (pa_cons (pv 1) pa_nil)))) pa_nil))))), ?_⟩
        refine ⟨_, rfl, (by show 2 ≤ sizeLine; decide), fun p hp => ?_⟩
        have sm : Same H (upd H p (.tup [.ty "list", .ty "tuple"])) := same_new hp
        have hp1 : (upd H p (.tup [.ty "list", .ty "tuple"])) p = some (.tup [.ty "list", .ty "tuple"]) := upd_same
        generalize upd H p (.tup [.ty "list", .ty "tuple"]) = H1 at *
        obtain ⟨t, ty, k⟩ := ty _ sm
        refine ⟨_, p, _, t, _, true, rfl, hp1, clsLT, ty, k, _, rfl, iteF ?_⟩
        have hx1 := sm _ _ hx
        refine ⟨_, rfl, .ref a, xs.length, rfl, .inr ⟨_, SqT.of hx1, rfl⟩, _, _, rfl, rfl, _, rfl, ?_⟩
        by_cases h1 : 1 ≤ xs.length
        · have d1 : decide ((1 : Int) ≤ (xs.length : Nat)) = true := decide_eq_true (by omega)
          rw [if_pos d1]
          refine ⟨_, _, rfl, rfl, _, rfl, ?_⟩
          by_cases h2 : xs.length ≤ 16
          · have d2 : decide (((xs.length : Nat) : Int) ≤ 16) = true := decide_eq_true (by omega)
            rw [d2]
            refine iteF ?_
            refine ⟨_, rfl, a, rfl, ⟨_, SqT.of hx1⟩, fun D hD => ?_⟩
            refine lc_tup (K := K) (a := a) (xs := xs) (fun i H' => Same H1 H' ∧ H' D = some (.lst ((xs.take i).map fun v => V.bl (worthB v)))) ⟨same_new hD, upd_same⟩
              (fun i H' _ hP => SqT.of (hP.1 _ _ hx1)) (fun i x H' hi hP => ?_) (fun H' hP => ?_)
            · have hm := List.mem_of_getElem? hi
              refine ⟨rfl, ?_⟩
              refine ⟨x, rfl, x, rfl, kn x hm H' (sm.trans hP.1), _, hP.2, ?_, ?_, ?_⟩
              · rw [List.length_map, List.length_take]
                exact Nat.lt_of_le_of_lt (Nat.min_le_right _ _) (small1000 (by omega))
              · intro c o hc
                have h3 := hP.1 c o hc
                rw [upd_ne (ne_of_none hc hD)]
                exact h3
              · rw [upd_same, take_succ_map hi]
            · have hD2 := hP.2
              rw [List.take_length, maps] at hD2
              refine ⟨D, xs.map worthB, rfl, SqL.of hD2, ?_⟩
              have e : (xs.map worthB).all id = worthsB xs := by
                rw [worths_all h1 h2, List.all_map]
                rfl
              rw [e]
              exact q _ (sm.trans hP.1)
          · have d2 : decide (((xs.length : Nat) : Int) ≤ 16) = false := decide_eq_false (by omega)
            rw [d2]
            refine iteT ?_
            have z := q _ sm
            rw [worths_long (fun z => h2 z.2)] at z
            exact z
        · have d1 : ¬ decide ((1 : Int) ≤ (xs.length : Nat)) = true := fun z => h1 (by have := of_decide_eq_true z; omega)
          rw [if_neg d1]
          refine ⟨_, rfl, iteT ?_⟩
          have z := q _ sm
          rw [worths_long (fun z => h1 z.1)] at z
          exact z
theorem ok_areworths (T : Txt K mg) (c__law_is : CalG P w K mg base 1 "_law_is" (spWhole K)) (D : DefAt K mg "_law_are_worths" s__law_are_worths ["_law_thing_here"]) : CalG P w K mg base 2 "_law_are_worths" (spWorths K) := by
  refine D.cal sc__law_are_worths (fun vs H Q E h => ?_) (fun f cdv A outer s H vs Q E hG hr h => ?_)
  · obtain ⟨v, rfl, _⟩ := h
    rfl
  · obtain ⟨v, rfl, h | h⟩ := h
    · obtain ⟨ty, q⟩ := h
      refine ⟨_, (pss_cons (ps_if (PW.pt (pw_or (pt_not (pt_val (pe_callB call_isiT (by rfl) T.b_isinstance boot_isinstance_ (pa_cons (pv 0) (pa_cons (pe_tup (pa_cons (pe_bltn (v := .ty "list") (by rfl) T.t_list boot_list_ rfl) (pa_cons (pe_bltn (v := .ty "tuple") (by rfl) T.t_tuple boot_tuple_ rfl) pa_nil))) pa_nil))))) (pw_or (pt_cmpR op_lt (pe_callB call_len (by rfl) T.b_len boot_len_ (pa_cons (pv 0) pa_nil)) pe_int (nomark _)) (pw_or1 (pt_cmpR op_gt (pe_callB call_len (by rfl) T.b_len boot_len_ (pa_cons (pv 0) pa_nil)) pe_int (nomark _))))))
          (pss_one (ps_ret pe_bl)) pss_nil)
      (pss_cons (ps_for PassesOwn.never rfl (pi_list (pv 0)) (pg_name (i := 1) sc__law_are_worths.nd rfl (Or.inl rfl))
          (pss_one (ps_if (pt_not (pt_val (pe_g c__law_is hG (hr.mono (by decide)) (by rfl) (pa_cons (pv 1) (pa_cons (pe_op op_sub pe_int (pe_op op_pow pe_int pe_int)) (pa_cons (pe_op op_sub (pe_op op_pow pe_int pe_int) pe_int) pa_nil))))))
              (pss_one (ps_ret pe_bl)) pss_nil)))
      (pss_one (ps_ret pe_bl)))), ?_⟩
      refine ⟨_, rfl, (by show 2 ≤ sizeLine; decide), fun p hp => ?_⟩
      have sm : Same H (upd H p (.tup [.ty "list", .ty "tuple"])) := same_new hp
      obtain ⟨t, ty, k⟩ := ty _ sm
      exact ⟨v, p, _, t, _, false, rfl, upd_same, clsLT, ty, k, _, rfl, iteT (iteT (q _ sm))⟩
    · obtain ⟨ty, a, xs, rfl, hlen, hx, kn, q⟩ := h
      rcases hx with hx | hx
      · refine ⟨_, (pss_cons (ps_if (PW.pt (pw_or (pt_not (pt_val (pe_callB call_isiT (by rfl) T.b_isinstance boot_isinstance_ (pa_cons (pv 0) (pa_cons (pe_tup (pa_cons (pe_bltn (v := .ty "list") (by rfl) T.t_list boot_list_ rfl) (pa_cons (pe_bltn (v := .ty "tuple") (by rfl) T.t_tuple boot_tuple_ rfl) pa_nil))) pa_nil))))) (pw_or (pt_cmpR op_lt (pe_callB call_len (by rfl) T.b_len boot_len_ (pa_cons (pv 0) pa_nil)) pe_int (nomark _)) (pw_or1 (pt_cmpR op_gt (pe_callB call_len (by rfl) T.b_len boot_len_ (pa_cons (pv 0) pa_nil)) pe_int (nomark _))))))
          (pss_one (ps_ret pe_bl)) pss_nil)
      (pss_cons (ps_for PassesOwn.never rfl (pi_list (pv 0)) (pg_name (i := 1) sc__law_are_worths.nd rfl (Or.inl rfl))
          (pss_one (ps_if (pt_not (pt_val (pe_g c__law_is hG (hr.mono (by decide)) (by rfl) (pa_cons (pv 1) (pa_cons (pe_op op_sub pe_int (pe_op op_pow pe_int pe_int)) (pa_cons (pe_op op_sub (pe_op op_pow pe_int pe_int) pe_int) pa_nil))))))
              (pss_one (ps_ret pe_bl)) pss_nil)))
      (pss_one (ps_ret pe_bl)))), ?_⟩
        refine ⟨_, rfl, (by show 2 ≤ sizeLine; decide), fun p hp => ?_⟩
        have sm : Same H (upd H p (.tup [.ty "list", .ty "tuple"])) := same_new hp
        have hp1 : (upd H p (.tup [.ty "list", .ty "tuple"])) p = some (.tup [.ty "list", .ty "tuple"]) := upd_same
        generalize upd H p (.tup [.ty "list", .ty "tuple"]) = H1 at *
        obtain ⟨t, ty, k⟩ := ty _ sm
        refine ⟨_, p, _, t, _, true, rfl, hp1, clsLT, ty, k, _, rfl, iteF ?_⟩
        have hx1 := sm _ _ hx
        refine ⟨_, rfl, .ref a, xs.length, rfl, .inl ⟨_, SqL.of hx1, rfl⟩, _, _, rfl, rfl, _, rfl, ?_⟩
        by_cases h1 : 1 ≤ xs.length
        · have d1 : decide (((xs.length : Nat) : Int) < 1) = false := decide_eq_false (by omega)
          rw [d1]
          refine iteF ⟨_, rfl, .ref a, xs.length, rfl, .inl ⟨_, SqL.of hx1, rfl⟩, _, _, rfl, rfl, _, rfl, ?_⟩
          by_cases h2 : xs.length ≤ 16
          · have d2 : decide (((xs.length : Nat) : Int) > 16) = false := decide_eq_false (by omega)
            rw [d2]
            refine iteF ?_
            refine ⟨_, rfl, a, rfl, ⟨_, SqL.of hx1⟩, ?_⟩
            refine for_list (K := K) (a := a) (xs := xs) (fun i σ H' => H' = H1 ∧ (xs.take i).all worthB = true ∧ ∃ y, σ = [some (.ref a), y]) ⟨rfl, rfl, none, rfl⟩
              (fun i σ H' _ hP => hP.1 ▸ SqL.of hx1) (fun i x σ H' hi hP => ?_) (fun σ H' hP => ?_)
            · obtain ⟨rfl, hall, y, rfl⟩ := hP
              have hm := List.mem_of_getElem? hi
              refine ⟨_, rfl, _, _, rfl, rfl, ⟨by decide, by decide, by decide⟩, _, _, rfl, rfl, _, _, rfl, rfl, ⟨by decide, by decide, by decide⟩, _, _, rfl, rfl, x, _, _, rfl, kn x hm H' sm, _, rfl, ?_⟩
              have ew : wholeB x (1 - 10 ^ (30 : Int).toNat) (10 ^ (30 : Int).toNat - 1) = worthB x := by
                unfold worthB
                have e1 : (1 - 10 ^ (30 : Int).toNat : Int) = -top30 := by decide
                have e2 : (10 ^ (30 : Int).toNat - 1 : Int) = top30 := by decide
                rw [e1, e2]
              rw [ew]
              cases hw : worthB x with
              | true =>
                refine iteF ⟨rfl, ?_, some x, rfl⟩
                rw [List.take_add_one, hi, List.all_append, hall, Bool.true_and]
                show (worthB x && true) = true
                rw [hw]
                rfl
              | false =>
                refine iteT ?_
                have z := q _ sm
                have e : worthsB xs = false := by
                  rw [worths_all h1 h2]
                  refine Bool.eq_false_iff.mpr fun z => ?_
                  have z2 := List.all_eq_true.mp z x hm
                  rw [hw] at z2
                  cases z2
                rw [e] at z
                exact z
            · obtain ⟨rfl, hall, y, rfl⟩ := hP
              rw [List.take_length] at hall
              have z := q _ sm
              rw [worths_all h1 h2, hall] at z
              exact z
          · have d2 : decide (((xs.length : Nat) : Int) > 16) = true := decide_eq_true (by omega)
            rw [d2]
            refine iteT ?_
            have z := q _ sm
            rw [worths_long (fun z => h2 z.2)] at z
            exact z
        · have d1 : decide (((xs.length : Nat) : Int) < 1) = true := decide_eq_true (by omega)
          rw [d1]
          refine iteT (iteT ?_)
          have z := q _ sm
          rw [worths_long (fun z => h1 z.1)] at z
          exact z
      · refine ⟨_, (pss_cons (ps_if (PW.pt (pw_or (pt_not (pt_val (pe_callB call_isiT (by rfl) T.b_isinstance boot_isinstance_ (pa_cons (pv 0) (pa_cons (pe_tup (pa_cons (pe_bltn (v := .ty "list") (by rfl) T.t_list boot_list_ rfl) (pa_cons (pe_bltn (v := .ty "tuple") (by rfl) T.t_tuple boot_tuple_ rfl) pa_nil))) pa_nil))))) (pw_or (pt_cmpR op_lt (pe_callB call_len (by rfl) T.b_len boot_len_ (pa_cons (pv 0) pa_nil)) pe_int (nomark _)) (pw_or1 (pt_cmpR op_gt (pe_callB call_len (by rfl) T.b_len boot_len_ (pa_cons (pv 0) pa_nil)) pe_int (nomark _))))))
          (pss_one (ps_ret pe_bl)) pss_nil)
      (pss_cons (ps_for PassesOwn.never rfl (pi_tup (pv 0)) (pg_name (i := 1) sc__law_are_worths.nd rfl (Or.inl rfl))
          (pss_one (ps_if (pt_not (pt_val (pe_g c__law_is hG (hr.mono (by decide)) (by rfl) (pa_cons (pv 1) (pa_cons (pe_op op_sub pe_int (pe_op op_pow pe_int pe_int)) (pa_cons (pe_op op_sub (pe_op op_pow pe_int pe_int) pe_int) pa_nil))))))
              (pss_one (ps_ret pe_bl)) pss_nil)))
      (pss_one (ps_ret pe_bl)))), ?_⟩
        refine ⟨_, rfl, (by show 2 ≤ sizeLine; decide), fun p hp => ?_⟩
        have sm : Same H (upd H p (.tup [.ty "list", .ty "tuple"])) := same_new hp
        have hp1 : (upd H p (.tup [.ty "list", .ty "tuple"])) p = some (.tup [.ty "list", .ty "tuple"]) := upd_same
        generalize upd H p (.tup [.ty "list", .ty "tuple"]) = H1 at *
        obtain ⟨t, ty, k⟩ := ty _ sm
        refine ⟨_, p, _, t, _, true, rfl, hp1, clsLT, ty, k, _, rfl, iteF ?_⟩
        have hx1 := sm _ _ hx
        refine ⟨_, rfl, .ref a, xs.length, rfl, .inr ⟨_, SqT.of hx1, rfl⟩, _, _, rfl, rfl, _, rfl, ?_⟩
        by_cases h1 : 1 ≤ xs.length
        · have d1 : decide (((xs.length : Nat) : Int) < 1) = false := decide_eq_false (by omega)
          rw [d1]
          refine iteF ⟨_, rfl, .ref a, xs.length, rfl, .inr ⟨_, SqT.of hx1, rfl⟩, _, _, rfl, rfl, _, rfl, ?_⟩
          by_cases h2 : xs.length ≤ 16
          · have d2 : decide (((xs.length : Nat) : Int) > 16) = false := decide_eq_false (by omega)
            rw [d2]
            refine iteF ?_
            refine ⟨_, rfl, a, rfl, ⟨_, SqT.of hx1⟩, ?_⟩
            refine for_tup (K := K) (a := a) (xs := xs) (fun i σ H' => H' = H1 ∧ (xs.take i).all worthB = true ∧ ∃ y, σ = [some (.ref a), y]) ⟨rfl, rfl, none, rfl⟩
              (fun i σ H' _ hP => hP.1 ▸ SqT.of hx1) (fun i x σ H' hi hP => ?_) (fun σ H' hP => ?_)
            · obtain ⟨rfl, hall, y, rfl⟩ := hP
              have hm := List.mem_of_getElem? hi
              refine ⟨_, rfl, _, _, rfl, rfl, ⟨by decide, by decide, by decide⟩, _, _, rfl, rfl, _, _, rfl, rfl, ⟨by decide, by decide, by decide⟩, _, _, rfl, rfl, x, _, _, rfl, kn x hm H' sm, _, rfl, ?_⟩
              have ew : wholeB x (1 - 10 ^ (30 : Int).toNat) (10 ^ (30 : Int).toNat - 1) = worthB x := by
                unfold worthB
                have e1 : (1 - 10 ^ (30 : Int).toNat : Int) = -top30 := by decide
                have e2 : (10 ^ (30 : Int).toNat - 1 : Int) = top30 := by decide
                rw [e1, e2]
              rw [ew]
              cases hw : worthB x with
              | true =>
                refine iteF ⟨rfl, ?_, some x, rfl⟩
                rw [List.take_add_one, hi, List.all_append, hall, Bool.true_and]
                show (worthB x && true) = true
                rw [hw]
                rfl
              | false =>
                refine iteT ?_
                have z := q _ sm
                have e : worthsB xs = false := by
                  rw [worths_all h1 h2]
                  refine Bool.eq_false_iff.mpr fun z => ?_
                  have z2 := List.all_eq_true.mp z x hm
                  rw [hw] at z2
                  cases z2
                rw [e] at z
                exact z
            · obtain ⟨rfl, hall, y, rfl⟩ := hP
              rw [List.take_length] at hall
              have z := q _ sm
              rw [worths_all h1 h2, hall] at z
              exact z
          · have d2 : decide (((xs.length : Nat) : Int) > 16) = true := decide_eq_true (by omega)
            rw [d2]
            refine iteT ?_
            have z := q _ sm
            rw [worths_long (fun z => h2 z.2)] at z
            exact z
        · have d1 : decide (((xs.length : Nat) : Int) < 1) = true := decide_eq_true (by omega)
          rw [d1]
          refine iteT (iteT ?_)
          have z := q _ sm
          rw [worths_long (fun z => h1 z.1)] at z
          exact z
theorem Th.away {H : Hp} {b D : Addr} {o : HO} {v : V} (h : Th H b v) (n : ∀ a, v = .ref a → a ≠ D) : Th (upd H D o) b v := by
  cases h with
  | fl h => exact .fl h
  | emp k h =>
    refine .emp k ?_
    rw [upd_ne (n _ rfl)]
    exact h
  | lst k h l i =>
    refine .lst k ?_ l i
    rw [upd_ne (n _ rfl)]
    exact h
  | tup k h l i =>
    refine .tup k ?_ l i
    rw [upd_ne (n _ rfl)]
    exact h
theorem boxAway {H : Hp} {b D : Addr} {o : HO} (h : BoxAt H b) (n : D ≠ b) : BoxAt (upd H D o) b := by
  obtain ⟨x, y, z, h1, h2, h3, h4⟩ := h
  refine ⟨x, y, z, h1, h2, h3, ?_⟩
  rw [upd_ne n.symm]
  exact h4
theorem dpInts {K : PySem.W.Frag} {H : Hp} : ∀ ns : List Int, DpAll K H (ns.map V.int) (ns.map PyData.int)
  | [] => .nil
  | n :: r => .cons (.int n) (dpInts r)
theorem canInts : ∀ ns : List Int, PyData.canLayAll0 (ns.map PyData.int) = true
  | [] => by simp [PyData.canLayAll0]
  | n :: r => by simp [PyData.canLayAll0, PyData.canLay0, canInts r]
theorem depInts : ∀ ns : List Int, PyData.depthAll (ns.map PyData.int) = 0
  | [] => by simp [PyData.depthAll]
  | n :: r => by simp [PyData.depthAll, PyData.depth, depInts r]
theorem shInts (ns : List Int) : SeqAt.shaped (.list (ns.map PyData.int)) = true := by
  unfold SeqAt.shaped
  simp [PyData.canLay0, canInts, PyData.depth, depInts]
theorem eqvNil (ns : List Int) : PyData.eqv (.list (ns.map PyData.int)) (.list []) = decide (ns = []) := by
  cases ns with
  | nil => simp [PyData.eqv, PyData.eqvAll]
  | cons n r => simp [PyData.eqv, PyData.eqvAll]
theorem mem_ints {ns : List Int} {H : Hp} {b : Addr} (h : ∀ n ∈ ns, Big n) : ∀ x ∈ ns.map V.int, Th H b x := by
  intro x hx
  obtain ⟨n, hn, rfl⟩ := List.mem_map.mp hx
  exact .fl (.int n (h n hn))
def spRow : Sp := fun vs H Q _ => ∃ b : Addr, vs = [.ref b] ∧ BoxAt H b ∧ ∀ (v : V) (H' : Hp), Rw H' b v → BoxAt H' b → Kp b H H' → Q v H'
theorem ok_row (T : Txt K mg) (c__law_take : CalG P w K mg base 1 "_law_take" spTake) (c__law_number : CalG P w K mg base 2 "_law_number" spNumber)
    (c__law_thing : CalG P w K mg base 3 "_law_thing" spThing)
    (D : DefAt K mg "_law_row" s__law_row ["_law_box_here"]) : CalG P w K mg base 4 "_law_row" spRow := by
  refine D.cal sc__law_row (fun vs H Q E h => ?_) (fun f cdv A outer s H vs Q E hG hr h => ?_)
  · obtain ⟨b, rfl, _⟩ := h
    rfl
  · obtain ⟨b, rfl, hB, q⟩ := h
    refine ⟨_, (pss_cons (ps_set (i := 1) sc__law_row.nd rfl (Or.inl rfl) (pe_g c__law_take hG (hr.mono (by decide)) (by rfl) (pa_cons (pv 0) (pa_cons pe_int pa_nil))))
      (pss_cons (ps_set (i := 2) sc__law_row.nd rfl (Or.inl rfl) (pe_g c__law_take hG (hr.mono (by decide)) (by rfl) (pa_cons (pv 0) (pa_cons pe_int pa_nil))))
      (pss_cons (ps_set (i := 3) sc__law_row.nd rfl (Or.inl rfl) (pe_ix ix_list (pe_lst (pa_cons (pe_g c__law_take hG (hr.mono (by decide)) (by rfl) (pa_cons (pv 0) (pa_cons pe_int pa_nil))) (pa_cons pe_int (pa_cons pe_int (pa_cons pe_int pa_nil))))) (pe_g c__law_take hG (hr.mono (by decide)) (by rfl) (pa_cons (pv 0) (pa_cons pe_int pa_nil))) (fun _ _ => rfl)))
      (pss_cons (ps_setLc (i := 4) (own := [("_law_k", 5)]) (g := gName 5) (tt := tYes) rfl sc__law_row.nd rfl rfl (sw_true rfl rfl rfl (by decide +kernel)) (pi_range1 rfl T.b_range (pa_cons (pv 3) pa_nil)) (blkOk_by (own := [("_law_k", 5)]) (N := ["_law_box_here", "_law_spoilt", "_law_kind", "_law_size", "_law_row_here", "_law_k"]) (sc := defScope s__law_row) (by decide +kernel)) (fun _ _ _ _ _ => pg_name (i := 5) sc__law_row.nd rfl (Or.inl rfl)) (fun _ _ _ _ _ => pts_nil) (fun _ _ _ _ _ => (pe_g c__law_number hG (hr.mono (by decide)) (by rfl) (pa_cons (pv 0) pa_nil))))
      (pss_cons (ps_if (PW.pt (pw_and (pt_cmpR op_eq (pv 1) pe_int (nomark _)) (pw_and1 (pt_cmpR (op_neD (hu64 hr)) (pv 4) (pe_lst pa_nil) (nomark _)))))
          (pss_one (ps_asg (pe_g c__law_thing hG (hr.mono (by decide)) (by rfl) (pa_cons (pv 0) pa_nil)) (pg_sub (pv 4) (pe_g c__law_take hG (hr.mono (by decide)) (by rfl) (pa_cons (pv 0) (pa_cons (pv 3) pa_nil))) set_list))) pss_nil)
      (pss_one (ps_ret (pe_ix ix_list (pe_lst (pa_cons (pv 4) (pa_cons (pe_callTy call_tuple_of (by rfl) T.t_tuple boot_tuple_ (pa_cons (pv 4) pa_nil)) pa_nil))) (pv 2) (fun _ _ => rfl))))))))), ?_⟩
    refine ⟨_, rfl, b, 2, rfl, hB, by decide, by decide, fun sp H1 s0 s1 hB1 k1 => ?_⟩
    refine ⟨_, rfl, b, 2, rfl, hB1, by decide, by decide, fun kd H2 kd0 kd1 hB2 k2 => ?_⟩
    refine ⟨_, rfl, b, 19, rfl, hB2, by decide, by decide, fun d3 H3 e0 e1 hB3 k3 => ?_⟩
    refine ⟨(by show 4 ≤ sizeLine; decide), fun l4 hl4 => ?_⟩
    refine ⟨_, rfl, b, 4, rfl, hB3.upd hl4, by decide, by decide, fun d4 H4 f0 f1 hB4 k4 => ?_⟩
    have hL := (k4 l4 (hB3.ne hl4)).trans upd_same
    obtain ⟨v, hv, hat⟩ := pickL [.int d3, .int 16, .int 17, .int 1] f0 (by show d4 < ((4 : Nat) : Int); omega)
    have hn : ∃ n : Int, v = .int n ∧ 0 ≤ n ∧ n ≤ 18 := by
      simp only [List.mem_cons, List.not_mem_nil, or_false] at hv
      rcases hv with rfl | rfl | rfl | rfl
      · exact ⟨_, rfl, e0, by omega⟩
      all_goals exact ⟨_, rfl, by decide, by decide⟩
    obtain ⟨n, rfl, n0, n1⟩ := hn
    refine ⟨l4, _, d4, _, rfl, rfl, SqL.of hL, hat, ?_⟩
    have hK4 : Kp b H H4 := (kp_of k1).trans ((kp_of k2).trans ((kp_of k3).trans ((Kp.refl.upd hl4).trans (kp_of k4))))
    refine ⟨_, rfl, n, rfl, by omega, by omega, fun D hD0 => ?_⟩
    have hDb : D ≠ b := hB4.ne hD0
    refine lc_range (lo := 0) (n := n.toNat) (fun i H' => Kp b H4 H' ∧ BoxAt H' b ∧ ∃ ns : List Int, ns.length = i ∧ (∀ m ∈ ns, Big m) ∧ H' D = some (.lst (ns.map V.int)))
      ⟨Kp.refl.upd hD0, hB4.upd hD0, [], rfl, (fun _ z => nomatch z), upd_same⟩ (fun i H' hi hP => ?_) (fun H' hP => ?_)
    · obtain ⟨kk, hBB, ns, hlen, hbig, hD⟩ := hP
      refine ⟨rfl, ?_⟩
      refine ⟨_, rfl, b, rfl, hBB, fun m H5 hm hB5 k5 => ⟨ns.map V.int, k5 D _ hDb hD, ?_, ?_, boxAway hB5 hDb, ns ++ [m], ?_, ?_, ?_⟩⟩
      · rw [List.length_map]
        exact small1000 (by omega)
      · intro c o hc z
        have z2 := k5 c o hc (kk c o hc z)
        rw [upd_ne (ne_of_none z hD0)]
        exact z2
      · rw [List.length_append, hlen]
        rfl
      · intro x hx
        rcases List.mem_append.mp hx with hx | hx
        · exact hbig x hx
        · rw [List.mem_singleton.mp hx]
          exact hm
      · rw [upd_same, List.map_append]
        rfl
    · obtain ⟨kk, hBB, ns, hlen0, hbig, hD⟩ := hP
      have hKH : Kp b H H' := hK4.trans kk
      have hlen : (ns.map V.int).length ≤ 18 := by
        rw [List.length_map]
        omega
      have hth := mem_ints (H := H') (b := b) hbig
      refine ⟨_, rfl, rfl, _, rfl, ?_⟩
      refine ite2 (fun _ => ?_) (fun _ => ?_)
      · refine ⟨_, rfl, (by show 0 ≤ sizeLine; decide), fun l hl => ?_⟩
        have hDl := kep (o := .lst (ns.map V.int)) (u := .lst []) hD hl
        refine ⟨.list (ns.map PyData.int), .list [], .lst (SqL.of hDl) (dpInts ns), .lst (SqL.of upd_same) .nil, shInts ns, shInts [], _, rfl, ?_⟩
        have hBl := hBB.upd (o := .lst []) hl
        have hKl : Kp b H (upd H' l (.lst [])) := hKH.upd hl
        generalize upd H' l (.lst []) = H6 at *
        rw [eqvNil]
        by_cases hne : ns = []
        · rw [decide_eq_true hne]
          refine iteF ?_
          generalize hxs : ns.map V.int = xs at *
          have hth := mem_ints (H := H6) (b := b) hbig
          rw [hxs] at hth
          have hB7 := hBl
          have hK7 := hKl
          have hD := hDl
          generalize H6 = H7 at *
          refine ⟨_, rfl, _, rfl, D, xs, rfl, .inl ⟨SqL.of hD, fun t ht => ?_⟩⟩
          refine ⟨(by show 2 ≤ sizeLine; decide), fun l hl => ?_⟩
          have hK2 : Kp b H7 (upd (upd H7 t (.tup xs)) l (.lst [.ref D, .ref t])) := (Kp.refl.upd ht).upd hl
          have hts : ∀ x ∈ xs, Th (upd (upd H7 t (.tup xs)) l (.lst [.ref D, .ref t])) b x := fun x hx => (hth x hx).kp hK2
          have B8 := (hB7.upd (o := .tup xs) ht).upd (o := .lst [.ref D, .ref t]) hl
          have hkk : kd = 0 ∨ kd = 1 := by omega
          rcases hkk with rfl | rfl
          · refine ⟨_, rfl, l, _, 0, .ref D, rfl, rfl, SqL.of upd_same, rfl, ?_⟩
            exact q _ _ (.lst hDb (hK2 _ _ hDb hD) hlen hts) B8 (hK7.trans hK2)
          · refine ⟨_, rfl, l, _, 1, .ref t, rfl, rfl, SqL.of upd_same, rfl, ?_⟩
            exact q _ _ (.tup (hB7.ne ht) (kep upd_same hl) hlen hts) B8 (hK7.trans hK2)
        · rw [decide_eq_false hne]
          refine iteT ?_
          have hpos : 0 < n := by
            have : 0 < ns.length := List.length_pos_iff.mpr hne
            omega
          refine ⟨_, rfl, b, rfl, hBl, fun v H8 hv hnew hB8 k8 => ?_⟩
          have hD8 := k8 D _ hDb hDl
          refine ⟨_, rfl, _, rfl, _, rfl, b, n, rfl, hB8, hpos, by omega, fun j H9 j0 j1 hB9 k9 => ?_⟩
          have hD9 := (k9 D hDb).trans hD8
          have hjx : ixN (ns.map V.int).length j = some j.toNat := by
            unfold ixN
            rw [if_pos j0, if_pos (by rw [List.length_map]; omega)]
          refine ⟨D, _, j, _, rfl, rfl, hD9, hjx, ?_⟩
          have hvD : ∀ a, v = .ref a → a ≠ D := fun a z y => by
            have z2 := hnew a z
            rw [y, hDl] at z2
            cases z2
          have hth : ∀ x ∈ (ns.map V.int).set j.toNat v, Th (upd H9 D (.lst ((ns.map V.int).set j.toNat v))) b x := by
            intro x hx
            rcases List.mem_or_eq_of_mem_set hx with hx | rfl
            · exact mem_ints hbig x hx
            · exact (hv.kp (kp_of k9)).away hvD
          have hlen : ((ns.map V.int).set j.toNat v).length ≤ 18 := by
            rw [List.length_set]
            exact hlen
          have hB7 := boxAway (o := .lst ((ns.map V.int).set j.toNat v)) hB9 hDb
          have hD : (upd H9 D (.lst ((ns.map V.int).set j.toNat v))) D = some (.lst ((ns.map V.int).set j.toNat v)) := upd_same
          have hK7 : Kp b H (upd H9 D (.lst ((ns.map V.int).set j.toNat v))) := fun c o hc z => by
            have z4 := hK4 c o hc z
            rw [upd_ne (ne_of_none z4 hD0)]
            exact ((hKl.trans k8).trans (kp_of k9)) c o hc z
          generalize upd H9 D (.lst ((ns.map V.int).set j.toNat v)) = H7 at *
          generalize (ns.map V.int).set j.toNat v = xs at *
          refine ⟨_, rfl, _, rfl, D, xs, rfl, .inl ⟨SqL.of hD, fun t ht => ?_⟩⟩
          refine ⟨(by show 2 ≤ sizeLine; decide), fun l hl => ?_⟩
          have hK2 : Kp b H7 (upd (upd H7 t (.tup xs)) l (.lst [.ref D, .ref t])) := (Kp.refl.upd ht).upd hl
          have hts : ∀ x ∈ xs, Th (upd (upd H7 t (.tup xs)) l (.lst [.ref D, .ref t])) b x := fun x hx => (hth x hx).kp hK2
          have B8 := (hB7.upd (o := .tup xs) ht).upd (o := .lst [.ref D, .ref t]) hl
          have hkk : kd = 0 ∨ kd = 1 := by omega
          rcases hkk with rfl | rfl
          · refine ⟨_, rfl, l, _, 0, .ref D, rfl, rfl, SqL.of upd_same, rfl, ?_⟩
            exact q _ _ (.lst hDb (hK2 _ _ hDb hD) hlen hts) B8 (hK7.trans hK2)
          · refine ⟨_, rfl, l, _, 1, .ref t, rfl, rfl, SqL.of upd_same, rfl, ?_⟩
            exact q _ _ (.tup (hB7.ne ht) (kep upd_same hl) hlen hts) B8 (hK7.trans hK2)
      · generalize hxs : ns.map V.int = xs at *
        have hB7 := hBB
        have hK7 := hKH
        generalize H' = H7 at *
        refine ⟨_, rfl, _, rfl, D, xs, rfl, .inl ⟨SqL.of hD, fun t ht => ?_⟩⟩
        refine ⟨(by show 2 ≤ sizeLine; decide), fun l hl => ?_⟩
        have hK2 : Kp b H7 (upd (upd H7 t (.tup xs)) l (.lst [.ref D, .ref t])) := (Kp.refl.upd ht).upd hl
        have hts : ∀ x ∈ xs, Th (upd (upd H7 t (.tup xs)) l (.lst [.ref D, .ref t])) b x := fun x hx => (hth x hx).kp hK2
        have B8 := (hB7.upd (o := .tup xs) ht).upd (o := .lst [.ref D, .ref t]) hl
        have hkk : kd = 0 ∨ kd = 1 := by omega
        rcases hkk with rfl | rfl
        · refine ⟨_, rfl, l, _, 0, .ref D, rfl, rfl, SqL.of upd_same, rfl, ?_⟩
          exact q _ _ (.lst hDb (hK2 _ _ hDb hD) hlen hts) B8 (hK7.trans hK2)
        · refine ⟨_, rfl, l, _, 1, .ref t, rfl, rfl, SqL.of upd_same, rfl, ?_⟩
          exact q _ _ (.tup (hB7.ne ht) (kep upd_same hl) hlen hts) B8 (hK7.trans hK2)
end
end Kw
namespace Kw
open PySem PySem.Spec PyProof.Rows L2 Gd
section
variable {P : Program} {w : World} {K : PySem.W.Frag} {mg : Str → Option Value} {base : Heap}
/-! ### how things are shown -/
theorem bool_len (B : Bool) : (PyData.bool B).shown.length ≤ 5 := by
  cases B
  · simp only [PyData.shown]
    decide +kernel
  · simp only [PyData.shown]
    decide +kernel
theorem none_len : PyData.none.shown.length ≤ 5 := by
  simp only [PyData.shown]
  decide +kernel
theorem line_le {n : Nat} (h : n ≤ 1000000) : n ≤ sizeLine := Nat.le_trans h (by decide)
theorem shb (B : Bool) : (PyData.bool B).showable = true := by simp only [PyData.showable]
theorem lnb (B : Bool) : (PyData.bool B).shown.length ≤ sizeLine := Nat.le_trans (bool_len B) (by decide)
theorem dpb (B : Bool) : (PyData.bool B).depth ≤ 60 := by
  simp only [PyData.depth]
  decide
theorem ifSame {x : V} {A B : Prop} (h : B) : if (!decide (x = x)) = true then A else B := by
  rw [decide_eq_true rfl]
  exact h
theorem big_log {n : Int} (h : Big n) : n.natAbs.log2 < 1920 := by
  have h0 : n.natAbs < 2 ^ 1920 := by
    have h1 : n.natAbs ≤ 10 ^ 39 := by
      obtain ⟨h1, h2⟩ := h
      omega
    exact Nat.lt_of_le_of_lt h1 (by decide +kernel)
  by_cases z : n.natAbs = 0
  · rw [z]
    decide +kernel
  · exact (Nat.log2_lt z).mpr h0
theorem big_len {n : Int} (h : Big n) : (PyData.int n).shown.length ≤ 200 := by
  simp only [PyData.shown]
  rw [PySem.ofString_length]
  have h1 : n.natAbs < 10 ^ 40 := by
    have h1 : n.natAbs ≤ 10 ^ 39 := by
      obtain ⟨h1, h2⟩ := h
      omega
    exact Nat.lt_of_le_of_lt h1 (by decide +kernel)
  exact Nat.le_trans (int_text_length_le10 (k := 40) (by decide) h1) (by decide)
theorem fl_data {v : V} (h : Fl v) : ∃ d, (∀ K H, Dp K H v d) ∧ d.showable = true ∧ d.shown.length ≤ 200 ∧ d.depth = 0 := by
  cases h with
  | non => exact ⟨.none, fun _ _ => .non, by simp only [PyData.showable], Nat.le_trans none_len (by decide), by simp only [PyData.depth]⟩
  | bl x => exact ⟨.bool x, fun _ _ => .bl x, by simp only [PyData.showable], Nat.le_trans (bool_len x) (by decide), by simp only [PyData.depth]⟩
  | str x h h2 =>
    refine ⟨.str x, fun _ _ => .str x, by simp only [PyData.showable], ?_, by simp only [PyData.depth]⟩
    simp only [PyData.shown]
    omega
  | int n h =>
    refine ⟨.int n, fun _ _ => .int n, ?_, big_len h, by simp only [PyData.depth]⟩
    simp only [PyData.showable, decide_eq_true_eq]
    exact big_log h
theorem sum_le {m : Nat} : ∀ ts : List Str, (∀ t ∈ ts, t.length ≤ m) → (ts.map (·.length)).sum ≤ m * ts.length
  | [], _ => by simp
  | t :: r, h => by
    have h1 := h t List.mem_cons_self
    have h2 := sum_le r fun x hx => h x (List.mem_cons_of_mem _ hx)
    rw [List.map_cons, List.sum_cons, List.length_cons, Nat.mul_succ]
    show t.length + _ ≤ _
    omega
theorem shown_n : ∀ ds : List PyData, (PyData.shownAll ds).length = ds.length
  | [] => by
    simp only [PyData.shownAll]
    rfl
  | d :: r => by simp only [PyData.shownAll, List.length_cons, shown_n r]
theorem fls_data : ∀ xs : List V, (∀ v ∈ xs, Fl v) → ∃ ds, (∀ K H, DpAll K H xs ds) ∧ ds.length = xs.length ∧ PyData.showableAll ds = true ∧
    (∀ t ∈ PyData.shownAll ds, t.length ≤ 200) ∧ PyData.depthAll ds = 0
  | [], _ => ⟨[], fun _ _ => .nil, rfl, by simp only [PyData.showableAll], by simp [PyData.shownAll], by simp only [PyData.depthAll]⟩
  | v :: r, h => by
    obtain ⟨d, a1, a2, a3, a4⟩ := fl_data (h v List.mem_cons_self)
    obtain ⟨ds, b1, b2, b3, b4, b5⟩ := fls_data r fun x hx => h x (List.mem_cons_of_mem _ hx)
    refine ⟨d :: ds, fun K H => .cons (a1 K H) (b1 K H), by rw [List.length_cons, List.length_cons, b2], by simp only [PyData.showableAll, a2, b3, Bool.and_self], ?_, by simp only [PyData.depthAll, a4, b5, Nat.max_self]⟩
    intro t ht
    simp only [PyData.shownAll, List.mem_cons] at ht
    rcases ht with rfl | ht
    · exact a3
    · exact b4 t ht
/-- what is known of the data of a value, in all heaps that hold on to this one -/
structure Dat (K : PySem.W.Frag) (H : Hp) (v : V) (d : PyData) (m e : Nat) : Prop where
  at1 : ∀ H', Same H H' → D1 K H' v d
  sh : d.showable = true
  ln : d.shown.length ≤ m
  dp : d.depth ≤ e
theorem th_data {H : Hp} {b : Addr} {v : V} (h : Th H b v) : ∃ d, Dat K H v d 4000 1 := by
  cases h with
  | fl h =>
    obtain ⟨d, a1, a2, a3, a4⟩ := fl_data h
    exact ⟨d, fun H' _ => .dp (a1 K H'), a2, by omega, by omega⟩
  | emp n h =>
    refine ⟨.dict [], fun H' s => .emp (s _ _ h), by simp only [PyData.showable, PyData.showableKv], ?_, by simp only [PyData.depth, PyData.depthKv]; decide⟩
    simp only [PyData.shown, PyData.shownKv]
    decide +kernel
  | lst n h l i =>
    rename_i a xs
    obtain ⟨ds, b1, b2, b3, b4, b5⟩ := fls_data xs i
    refine ⟨.list ds, fun H' s => .dp (.lst (SqL.of (s _ _ h)) (b1 K H')), by simp only [PyData.showable, b3], ?_, by simp only [PyData.depth, b5]; decide⟩
    simp only [PyData.shown]
    have h1 := listText_len_le (PyData.shownAll ds)
    have h2 := sum_le _ b4
    rw [shown_n, b2] at h2
    rw [shown_n, b2] at h1
    omega
  | tup n h l i =>
    rename_i a xs
    obtain ⟨ds, b1, b2, b3, b4, b5⟩ := fls_data xs i
    refine ⟨.tuple ds, fun H' s => .dp (.tup (SqT.of (s _ _ h)) (b1 K H')), by simp only [PyData.showable, b3], ?_, by simp only [PyData.depth, b5]; decide⟩
    simp only [PyData.shown]
    have h1 := tupleText_len_le (PyData.shownAll ds)
    have h2 := sum_le _ b4
    rw [shown_n, b2] at h2
    rw [shown_n, b2] at h1
    omega
theorem ths_data {H : Hp} {b : Addr} : ∀ xs : List V, (∀ v ∈ xs, Th H b v) → ∃ ds, (∀ H', Same H H' → D1s K H' xs ds) ∧ ds.length = xs.length ∧ PyData.showableAll ds = true ∧
    (∀ t ∈ PyData.shownAll ds, t.length ≤ 4000) ∧ PyData.depthAll ds ≤ 1
  | [], _ => ⟨[], fun _ _ => .nil, rfl, by simp only [PyData.showableAll], by simp [PyData.shownAll], by simp only [PyData.depthAll]; decide⟩
  | v :: r, h => by
    obtain ⟨d, a1, a2, a3, a4⟩ := th_data (K := K) (h v List.mem_cons_self)
    obtain ⟨ds, b1, b2, b3, b4, b5⟩ := ths_data r fun x hx => h x (List.mem_cons_of_mem _ hx)
    refine ⟨d :: ds, fun H' s => .cons (a1 H' s) (b1 H' s), by rw [List.length_cons, List.length_cons, b2], by simp only [PyData.showableAll, a2, b3, Bool.and_self], ?_, ?_⟩
    · intro t ht
      simp only [PyData.shownAll, List.mem_cons] at ht
      rcases ht with rfl | ht
      · exact a3
      · exact b4 t ht
    · simp only [PyData.depthAll]
      omega
theorem rw_data {H : Hp} {b : Addr} {v : V} (h : Rw H b v) : ∃ d, (∀ H', Same H H' → D2 K H' v d) ∧ d.showable = true ∧ d.shown.length ≤ sizeLine ∧ d.depth ≤ 60 := by
  cases h with
  | th h =>
    obtain ⟨d, a1, a2, a3, a4⟩ := th_data (K := K) h
    exact ⟨d, fun H' s => .d1 (a1 H' s), a2, line_le (by omega), by omega⟩
  | lst n h l i =>
    rename_i a xs
    obtain ⟨ds, b1, b2, b3, b4, b5⟩ := ths_data (K := K) xs i
    refine ⟨.list ds, fun H' s => .lst (SqL.of (s _ _ h)) (b1 H' s), by simp only [PyData.showable, b3], ?_, by simp only [PyData.depth]; omega⟩
    simp only [PyData.shown]
    have h1 := listText_len_le (PyData.shownAll ds)
    have h2 := sum_le _ b4
    rw [shown_n, b2] at h2
    rw [shown_n, b2] at h1
    exact line_le (by omega)
  | tup n h l i =>
    rename_i a xs
    obtain ⟨ds, b1, b2, b3, b4, b5⟩ := ths_data (K := K) xs i
    refine ⟨.tuple ds, fun H' s => .tup (SqT.of (s _ _ h)) (b1 H' s), by simp only [PyData.showable, b3], ?_, by simp only [PyData.depth]; omega⟩
    simp only [PyData.shown]
    have h1 := tupleText_len_le (PyData.shownAll ds)
    have h2 := sum_le _ b4
    rw [shown_n, b2] at h2
    rw [shown_n, b2] at h1
    exact line_le (by omega)
/-! ### which of them are lists or tuples -/
theorem la_no {t : String} (h1 : kitB t "list" = some false) (h2 : kitB t "tuple" = some false) : PySem.W.kitAny K (.type t) [.type "list", .type "tuple"] = some false :=
  kitAny_cons (kit_ty h1) (fun _ => kitAny_cons (kit_ty h2) (fun _ => kitAny_nil) fun z => nomatch z) fun z => nomatch z
theorem la_list : PySem.W.kitAny K (.type "list") [.type "list", .type "tuple"] = some true :=
  kitAny_cons (b := true) (kit_ty (by decide +kernel)) (fun z => nomatch z) fun _ => rfl
theorem la_tuple : PySem.W.kitAny K (.type "tuple") [.type "list", .type "tuple"] = some true :=
  kitAny_cons (b := false) (kit_ty (by decide +kernel)) (fun _ => kitAny_cons (b := true) (kit_ty (by decide +kernel)) (fun z => nomatch z) fun _ => rfl) fun z => nomatch z
theorem fl_kn {v : V} (h : Fl v) (H : Hp) : Kn K H v := kn_of (b := 0) (.fl h)
def Seq (K : PySem.W.Frag) (H : Hp) (v : V) : Prop := (isLT K H v false) ∨ (isLT K H v true ∧ ∃ (a : Addr) (xs : List V), v = .ref a ∧ xs.length ≤ 18 ∧
  (H a = some (.lst xs) ∨ H a = some (.tup xs)) ∧ ∀ x ∈ xs, ∀ H', Same H H' → Kn K H' x)
theorem th_same {H H' : Hp} {b : Addr} {v : V} (h : Th H b v) (s : Same H H') : Th H' b v := h.kp fun c o _ z => s c o z
theorem lst_seq {H : Hp} {a : Addr} {xs : List V} (h : H a = some (.lst xs)) (l : xs.length ≤ 18) (i : ∀ x ∈ xs, ∀ H', Same H H' → Kn K H' x) : Seq K H (.ref a) :=
  .inr ⟨fun H' s => ⟨_, .base (.lst (s _ _ h)), la_list⟩, a, xs, rfl, l, .inl h, i⟩
theorem tup_seq {H : Hp} {a : Addr} {xs : List V} (h : H a = some (.tup xs)) (l : xs.length ≤ 18) (i : ∀ x ∈ xs, ∀ H', Same H H' → Kn K H' x) : Seq K H (.ref a) :=
  .inr ⟨fun H' s => ⟨_, .base (.tup (s _ _ h)), la_tuple⟩, a, xs, rfl, l, .inr h, i⟩
theorem rw_seq {H : Hp} {b : Addr} {v : V} (h : Rw H b v) : Seq K H v := by
  cases h with
  | th h =>
    cases h with
    | fl h =>
      cases h with
      | non => exact .inl fun H' _ => ⟨_, .base .non, la_no (by decide +kernel) (by decide +kernel)⟩
      | bl x => exact .inl fun H' _ => ⟨_, .base (.bl x), la_no (by decide +kernel) (by decide +kernel)⟩
      | str x _ _ => exact .inl fun H' _ => ⟨_, .base (.str x), la_no (by decide +kernel) (by decide +kernel)⟩
      | int n _ => exact .inl fun H' _ => ⟨_, .base (.int n), la_no (by decide +kernel) (by decide +kernel)⟩
    | emp n h => exact .inl fun H' s => ⟨_, .base (.dK (s _ _ h)), la_no (by decide +kernel) (by decide +kernel)⟩
    | lst n h l i => exact lst_seq h l fun x hx H' _ => fl_kn (i x hx) H'
    | tup n h l i => exact tup_seq h l fun x hx H' _ => fl_kn (i x hx) H'
  | lst n h l i => exact lst_seq h l fun x hx H' s => kn_of (th_same (i x hx) s)
  | tup n h l i => exact tup_seq h l fun x hx H' s => kn_of (th_same (i x hx) s)
/-! ### one turn of the law, and the law -/
theorem same_kp {b : Addr} {H H' : Hp} (s : Same H H') : Kp b H H' := fun c o _ z => s c o z
theorem boxSame {b : Addr} {H H' : Hp} (h : BoxAt H b) (s : Same H H') : BoxAt H' b := by
  obtain ⟨x, y, z, h1, h2, h3, h4⟩ := h
  exact ⟨x, y, z, h1, h2, h3, s _ _ h4⟩
theorem e30 (v : V) : wholeB v (1 - 10 ^ (30 : Int).toNat) (10 ^ (30 : Int).toNat - 1) = worthB v := by
  unfold worthB
  have e1 : (1 - 10 ^ (30 : Int).toNat : Int) = -top30 := by decide
  have e2 : (10 ^ (30 : Int).toNat - 1 : Int) = top30 := by decide
  rw [e1, e2]
def spRight : Sp := fun vs H Q _ => ∃ b : Addr, vs = [.ref b] ∧ BoxAt H b ∧ ∀ H' : Hp, BoxAt H' b → Kp b H H' → Q (.bl true) H'
theorem ok_right (T : Txt K mg) (c__law_take : CalG P w K mg base 1 "_law_take" spTake) (c__law_number : CalG P w K mg base 2 "_law_number" spNumber)
    (c__law_thing : CalG P w K mg base 3 "_law_thing" spThing) (c__law_row : CalG P w K mg base 4 "_law_row" spRow)
    (c_is_whole : CalG P w K mg base 1 "is_whole" (spWhole K)) (c_is_worth : CalG P w K mg base 2 "is_worth" (spWorth K)) (c_is_worths : CalG P w K mg base 3 "is_worths" (spWorths K))
    (c__law_is : CalG P w K mg base 1 "_law_is" (spWhole K)) (c__law_are_worths : CalG P w K mg base 2 "_law_are_worths" (spWorths K))
    (D : DefAt K mg "_law_right" s__law_right ["_law_box_here"]) : CalG P w K mg base 5 "_law_right" spRight := by
  refine D.cal sc__law_right (fun vs H Q E h => ?_) (fun f cdv A outer s H vs Q E hG hr h => ?_)
  · obtain ⟨b, rfl, _⟩ := h
    rfl
  · obtain ⟨b, rfl, hB, q⟩ := h
    refine ⟨_, (pss_cons (ps_set (i := 1) sc__law_right.nd rfl (Or.inl rfl) (pe_g c__law_thing hG (hr.mono (by decide)) (by rfl) (pa_cons (pv 0) pa_nil)))
      (pss_cons (ps_set (i := 2) sc__law_right.nd rfl (Or.inl rfl) (pe_g c__law_number hG (hr.mono (by decide)) (by rfl) (pa_cons (pv 0) pa_nil)))
      (pss_cons (ps_set (i := 3) sc__law_right.nd rfl (Or.inl rfl) (pe_op op_add (pv 2) (pe_ix ix_list (pe_lst (pa_cons pe_int (pa_cons pe_int (pa_cons pe_int (pa_cons (pe_un un_neg pe_int) (pa_cons (pe_op op_pow pe_int pe_int) pa_nil)))))) (pe_g c__law_take hG (hr.mono (by decide)) (by rfl) (pa_cons (pv 0) (pa_cons pe_int pa_nil))) (fun _ _ => rfl))))
      (pss_cons (ps_if (pt_cmpR op_ne (pe_callB (call_repr hG (hu64 hr)) (by rfl) T.b_repr boot_repr_ (pa_cons (pe_g c_is_whole hG (hr.mono (by decide)) (by rfl) (pa_cons (pv 1) (pa_cons (pv 2) (pa_cons (pv 3) pa_nil)))) pa_nil)) (pe_callB (call_repr hG (hu64 hr)) (by rfl) T.b_repr boot_repr_ (pa_cons (pe_g c__law_is hG (hr.mono (by decide)) (by rfl) (pa_cons (pv 1) (pa_cons (pv 2) (pa_cons (pv 3) pa_nil)))) pa_nil)) (nomark _))
          (pss_one (ps_ret pe_bl)) pss_nil)
      (pss_cons (ps_if (pt_cmpR op_ne (pe_callB (call_repr hG (hu64 hr)) (by rfl) T.b_repr boot_repr_ (pa_cons (pe_g c_is_worth hG (hr.mono (by decide)) (by rfl) (pa_cons (pv 1) pa_nil)) pa_nil)) (pe_callB (call_repr hG (hu64 hr)) (by rfl) T.b_repr boot_repr_ (pa_cons (pe_g c__law_is hG (hr.mono (by decide)) (by rfl) (pa_cons (pv 1) (pa_cons (pe_op op_sub pe_int (pe_op op_pow pe_int pe_int)) (pa_cons (pe_op op_sub (pe_op op_pow pe_int pe_int) pe_int) pa_nil)))) pa_nil)) (nomark _))
          (pss_one (ps_ret pe_bl)) pss_nil)
      (pss_cons (ps_for PassesOwn.never rfl (pi_list (pe_lst (pa_cons (pe_g c__law_row hG (hr.mono (by decide)) (by rfl) (pa_cons (pv 0) pa_nil)) (pa_cons (pv 1) pa_nil)))) (pg_name (i := 4) sc__law_right.nd rfl (Or.inl rfl))
          (pss_cons (ps_set (i := 5) sc__law_right.nd rfl (Or.inl rfl) (pe_callB (call_repr hG (hu64 hr)) (by rfl) T.b_repr boot_repr_ (pa_cons (pv 4) pa_nil)))
          (pss_one (ps_if (PW.pt (pw_or (pt_cmpR op_ne (pe_callB (call_repr hG (hu64 hr)) (by rfl) T.b_repr boot_repr_ (pa_cons (pe_g c_is_worths hG (hr.mono (by decide)) (by rfl) (pa_cons (pv 4) pa_nil)) pa_nil)) (pe_callB (call_repr hG (hu64 hr)) (by rfl) T.b_repr boot_repr_ (pa_cons (pe_g c__law_are_worths hG (hr.mono (by decide)) (by rfl) (pa_cons (pv 4) pa_nil)) pa_nil)) (nomark _)) (pw_or1 (pt_cmpR op_ne (pe_callB (call_repr hG (hu64 hr)) (by rfl) T.b_repr boot_repr_ (pa_cons (pv 4) pa_nil)) (pv 5) (nomark _)))))
              (pss_one (ps_ret pe_bl)) pss_nil))))
      (pss_one (ps_ret pe_bl)))))))), ?_⟩
    refine ⟨_, rfl, b, rfl, hB, fun v H1 hv hnew hB1 k1 => ?_⟩
    refine ⟨_, rfl, b, rfl, hB1, fun lo H2 hlo hB2 k2 => ?_⟩
    refine ⟨_, rfl, _, rfl, _, _, rfl, rfl, ⟨by decide, by decide, by decide⟩, (by show 5 ≤ sizeLine; decide), fun l hl => ?_⟩
    refine ⟨_, rfl, b, 5, rfl, hB2.upd hl, by decide, by decide, fun d H3 d0 d1 hB3 k3 => ?_⟩
    have hL := (k3 l (hB2.ne hl)).trans upd_same
    obtain ⟨y, hy, hat⟩ := pickL [.int 0, .int 1, .int 40, .int (-1), .int (10 ^ (30 : Int).toNat)] d0 (by show d < ((5 : Nat) : Int); omega)
    have hn : ∃ n : Int, y = .int n := by
      simp only [List.mem_cons, List.not_mem_nil, or_false] at hy
      rcases hy with rfl | rfl | rfl | rfl | rfl
      all_goals exact ⟨_, rfl⟩
    obtain ⟨n, rfl⟩ := hn
    refine ⟨l, _, d, _, rfl, rfl, SqL.of hL, hat, _, _, rfl, rfl, ?_⟩
    have kA : Kp b H1 H3 := k2.trans ((Kp.refl.upd hl).trans (kp_of k3))
    have hv3 : Th H3 b v := hv.kp kA
    have hK3 : Kp b H H3 := k1.trans kA
    have kn := kn_of (K := K) hv3
    refine ⟨_, rfl, _, rfl, _, rfl, v, _, _, rfl, kn, ⟨_, _, rfl, .d1 (.dp (.bl _)), shb _, lnb _, dpb _, _, rfl, _, rfl, _, rfl, v, _, _, rfl, kn, ⟨_, _, rfl, .d1 (.dp (.bl _)), shb _, lnb _, dpb _, rfl, _, rfl, ifSame ?_⟩⟩⟩
    refine ⟨_, rfl, v, rfl, kn, ⟨_, _, rfl, .d1 (.dp (.bl _)), shb _, lnb _, dpb _, _, rfl, _, _, rfl, rfl, ⟨by decide, by decide, by decide⟩, _, _, rfl, rfl, _, _, rfl, rfl, ⟨by decide, by decide, by decide⟩, _, _, rfl, rfl, v, _, _, rfl, kn, ⟨_, _, rfl, .d1 (.dp (.bl _)), shb _, lnb _, dpb _, rfl, _, rfl, ?_⟩⟩⟩
    rw [e30 v]
    refine ifSame ?_
    refine ⟨_, rfl, b, rfl, hB3, fun v2 H4 hv2 hB4 k4 => ⟨_, rfl, (by show 2 ≤ sizeLine; decide), fun l2 hl2 => ⟨l2, rfl, ⟨_, SqL.of upd_same⟩, ?_⟩⟩⟩
    have hB5 := hB4.upd (o := .lst [v2, v]) hl2
    have hK5 : Kp b H (upd H4 l2 (.lst [v2, v])) := (hK3.trans k4).trans (Kp.refl.upd hl2)
    have r2 : Rw (upd H4 l2 (.lst [v2, v])) b v2 := hv2.kp (Kp.refl.upd hl2)
    have r1 : Rw (upd H4 l2 (.lst [v2, v])) b v := .th (hv3.kp (k4.trans (Kp.refl.upd hl2)))
    have hl5 : (upd H4 l2 (.lst [v2, v])) l2 = some (.lst [v2, v]) := upd_same
    generalize upd H4 l2 (.lst [v2, v]) = H5 at *
    refine for_list (K := K) (a := l2) (xs := [v2, v]) (fun i σ H' => Same H5 H' ∧ ∃ y4 y5, σ = [some (.ref b), some v, some (.int lo), some (.int (lo + n)), y4, y5])
      ⟨Same.refl _, none, none, rfl⟩ (fun i σ H' _ hP => SqL.of (hP.1 _ _ hl5)) (fun i x σ H' hi hP => ?_) (fun σ H' hP => ?_)
    · obtain ⟨sm, y4, y5, rfl⟩ := hP
      have hx : Rw H5 b x := by
        have hm := List.mem_of_getElem? hi
        simp only [List.mem_cons, List.not_mem_nil, or_false] at hm
        rcases hm with rfl | rfl
        · exact r2
        · exact r1
      obtain ⟨dd, a1, a2, a3, a4⟩ := rw_data (K := K) hx
      rcases rw_seq (K := K) hx with h | ⟨h, a, xs, rfl, l18, hxs, kn⟩
      · skip
        refine ⟨_, rfl, _, dd, rfl, a1 _ sm, a2, a3, a4, ?_⟩
        refine ⟨_, rfl, _, rfl, .inl ⟨fun H2 s2 => h H2 (sm.trans s2), fun H6 s6 => ⟨_, _, rfl, .d1 (.dp (.bl _)), shb _, lnb _, dpb _, _, rfl, _, rfl, .inl ⟨fun H2 s2 => h H2 ((sm.trans s6).trans s2), fun H7 s7 => ⟨_, _, rfl, .d1 (.dp (.bl _)), shb _, lnb _, dpb _, rfl, _, rfl, ifSame ?_⟩⟩⟩⟩⟩
        have sm7 := (sm.trans s6).trans s7
        refine ⟨_, rfl, _, dd, rfl, a1 _ sm7, a2, a3, a4, _, rfl, rfl, _, rfl, ifSame ?_⟩
        exact ⟨sm7, _, _, rfl⟩
      · have hseq : ∀ H', Same H5 H' → H' a = some (.lst xs) ∨ H' a = some (.tup xs) := fun H' s => by
          rcases hxs with hxs | hxs
          · exact .inl (s _ _ hxs)
          · exact .inr (s _ _ hxs)
        refine ⟨_, rfl, _, dd, rfl, a1 _ sm, a2, a3, a4, ?_⟩
        refine ⟨_, rfl, _, rfl, .inr ⟨fun H2 s2 => h H2 (sm.trans s2), a, xs, rfl, l18, hseq _ sm, fun x hx H2 s2 => kn x hx H2 (sm.trans s2), fun H6 s6 => ⟨_, _, rfl, .d1 (.dp (.bl _)), shb _, lnb _, dpb _, _, rfl, _, rfl, .inr ⟨fun H2 s2 => h H2 ((sm.trans s6).trans s2), a, xs, rfl, l18, hseq _ (sm.trans s6), fun x hx H2 s2 => kn x hx H2 ((sm.trans s6).trans s2), fun H7 s7 => ⟨_, _, rfl, .d1 (.dp (.bl _)), shb _, lnb _, dpb _, rfl, _, rfl, ifSame ?_⟩⟩⟩⟩⟩
        have sm7 := (sm.trans s6).trans s7
        refine ⟨_, rfl, _, dd, rfl, a1 _ sm7, a2, a3, a4, _, rfl, rfl, _, rfl, ifSame ?_⟩
        exact ⟨sm7, _, _, rfl⟩
    · obtain ⟨sm, y4, y5, rfl⟩ := hP
      exact q H' (boxSame hB5 sm) (hK5.trans (same_kp sm))
end
end Kw
namespace Kw
open PySem PySem.Spec PyProof.Rows L2 Gd
section
variable {P : Program} {w : World} {K : PySem.W.Frag} {mg : Str → Option Value} {base : Heap}
def spLaw (K : PySem.W.Frag) : Sp := fun vs H Q _ => ∃ (a : Addr) (ns : List Int), vs = [.ref a] ∧ SqL K H a (ns.map V.int) ∧ ns.length ≤ 63 ∧ ∀ H', Q (.bl true) H'
theorem worth_ok {n : Int} (h0 : 0 ≤ n) (h1 : n ≤ top30) : worthB (.int n) = true := by
  show (decide (-top30 ≤ n) && decide (n ≤ top30)) = true
  have e1 : -top30 ≤ n := by
    have : (0 : Int) ≤ top30 := by decide
    omega
  rw [decide_eq_true e1, decide_eq_true h1]
  rfl
theorem worths_ok {ms : List Int} (h : ∀ n ∈ ms, 0 ≤ n ∧ n ≤ top30) : worthsB (ms.map V.int) = (decide (1 ≤ ms.length) && decide (ms.length ≤ 16)) := by
  unfold worthsB
  have e : (ms.map V.int).all worthB = true := by
    rw [List.all_eq_true]
    intro v hv
    obtain ⟨n, hn, rfl⟩ := List.mem_map.mp hv
    exact worth_ok (h n hn).1 (h n hn).2
  rw [e, List.length_map, Bool.and_true]
theorem kn_ints {ms : List Int} {H : Hp} : ∀ x ∈ ms.map V.int, ∀ H', Same H H' → Kn K H' x := by
  intro x hx H' _
  obtain ⟨n, hn, rfl⟩ := List.mem_map.mp hx
  exact ⟨_, .base (.int n), kit_ty ki_int, kit_ty kb_int⟩
theorem same_keep {H H' H'' : Hp} {b : Addr} (s : Same H H') (n : H' b = none) (k : ∀ c o, c ≠ b → H' c = some o → H'' c = some o) : Same H H'' := fun c o z =>
  k c o (ne_of_none (s c o z) n) (s c o z)
theorem ok_law (T : Txt K mg) {f : Addr} {fd : FuncData} (F : Fun K "law" "law" s_law f fd) (c__law_cell : CalG P w K mg base 1 "_law_cell" (spCell K)) (c__law_box : CalG P w K mg base 1 "_law_box" spBox)
    (c__law_right : CalG P w K mg base 5 "_law_right" spRight) (c_is_worths : CalG P w K mg base 3 "is_worths" (spWorths K)) :
    FnG P w K mg base CX0 6 f fd ["_law_script"] (spLaw K) := by
  refine okG F sc_law (fun vs H Q E h => ?_) (fun cdv A outer s H vs Q E hG hr h => ?_)
  · obtain ⟨a, ns, rfl, _⟩ := h
    rfl
  · obtain ⟨a, ns, rfl, hS, hl, q⟩ := h
    refine ⟨_, (pss_cons (ps_for PassesOwn.never rfl (pi_range1 rfl T.b_range (pa_cons (pe_callB (call_max2 rfl) (by rfl) T.b_max boot_max_ (pa_cons pe_int (pa_cons (pe_callB (call_min2 rfl) (by rfl) T.b_min boot_min_ (pa_cons (pe_callB call_len (by rfl) T.b_len boot_len_ (pa_cons (pv 0) pa_nil)) (pa_cons pe_int pa_nil))) pa_nil))) pa_nil)) (pg_name (i := 1) sc_law.nd rfl (Or.inl rfl))
          (pss_cons (ps_set (i := 2) sc_law.nd rfl (Or.inl rfl) (pe_g c__law_box hG (hr.mono (by decide)) (by rfl) (pa_cons (pe_g c__law_cell hG (hr.mono (by decide)) (by rfl) (pa_cons (pv 0) (pa_cons (pv 1) pa_nil))) pa_nil)))
          (pss_one (ps_for PassesOwn.never rfl (pi_range1 rfl T.b_range (pa_cons pe_int pa_nil)) (pg_name (i := 3) sc_law.nd rfl (Or.inl rfl))
              (pss_one (ps_if (pt_not (pt_val (pe_g c__law_right hG (hr.mono (by decide)) (by rfl) (pa_cons (pv 2) pa_nil))))
                  (pss_one (ps_ret pe_bl)) pss_nil))))))
      (pss_cons (ps_for PassesOwn.never rfl (pi_list (pe_lst (pa_cons pe_int (pa_cons pe_int (pa_cons pe_int (pa_cons pe_int pa_nil)))))) (pg_name (i := 4) sc_law.nd rfl (Or.inl rfl))
          (pss_cons (ps_setLc (i := 5) (own := [("_law_k", 1)]) (g := gName 1) (tt := tYes) rfl sc_law.nd rfl rfl (sw_true rfl rfl rfl (by decide +kernel)) (pi_range1 rfl T.b_range (pa_cons (pv 4) pa_nil)) (blkOk_by (own := [("_law_k", 1)]) (N := ["_law_script", "_law_k", "_law_box_here", "_law_turn", "_law_many", "_law_row_here"]) (sc := defScope s_law) (by decide +kernel)) (fun _ _ _ _ _ => pg_name (i := 1) sc_law.nd rfl (Or.inl rfl)) (fun _ _ _ _ _ => pts_nil) (fun _ _ _ _ _ => (pe_op op_mod (pe_g c__law_cell hG (hr.mono (by decide)) (by rfl) (pa_cons (pv 0) (pa_cons (pv 1) pa_nil))) (pe_op op_pow pe_int pe_int))))
          (pss_one (ps_if (PW.pt (pw_or (pt_cmpR op_ne (pe_callB (call_repr hG (hu64 hr)) (by rfl) T.b_repr boot_repr_ (pa_cons (pe_g c_is_worths hG (hr.mono (by decide)) (by rfl) (pa_cons (pv 5) pa_nil)) pa_nil)) (pe_callB (call_repr hG (hu64 hr)) (by rfl) T.b_repr boot_repr_ (pa_cons (pe_chain op_le op_le pe_int (pv 4) pe_int) pa_nil)) (nomark _)) (pw_or1 (pt_cmpR op_ne (pe_callB (call_repr hG (hu64 hr)) (by rfl) T.b_repr boot_repr_ (pa_cons (pe_g c_is_worths hG (hr.mono (by decide)) (by rfl) (pa_cons (pe_callTy call_tuple_of (by rfl) T.t_tuple boot_tuple_ (pa_cons (pv 5) pa_nil)) pa_nil)) pa_nil)) (pe_callB (call_repr hG (hu64 hr)) (by rfl) T.b_repr boot_repr_ (pa_cons (pe_chain op_le op_le pe_int (pv 4) pe_int) pa_nil)) (nomark _)))))
              (pss_one (ps_ret pe_bl)) pss_nil))))
      (pss_one (ps_ret pe_bl)))), ?_⟩
    refine ⟨_, rfl, .ref a, (ns.map V.int).length, rfl, .inl ⟨_, hS, rfl⟩, _, _, rfl, _, _, rfl, ?_⟩
    generalize hM : (if (if (40 : Int) < ((ns.map V.int).length : Nat) then (40 : Int) else ((ns.map V.int).length : Nat)) > 6 then (if (40 : Int) < ((ns.map V.int).length : Nat) then (40 : Int) else ((ns.map V.int).length : Nat)) else 6) = M
    have hM1 : 0 ≤ M ∧ M ≤ 63 := by
      rw [← hM, List.length_map]
      split <;> split <;> omega
    refine ⟨M, rfl, by omega, by omega, ?_⟩
    refine for_range (lo := 0) (n := M.toNat) (fun i σ H' => Same H H' ∧ ∃ y1 y2 y3 y4 y5, σ = [some (.ref a), y1, y2, y3, y4, y5])
      ⟨Same.refl _, none, none, none, none, none, rfl⟩ (fun i σ H' hi hP => ?_) (fun σ H' hP => ?_)
    · obtain ⟨sm, y1, y2, y3, y4, y5, rfl⟩ := hP
      refine ⟨_, rfl, _, rfl, a, ns, _, rfl, sm.seq hS, hl, by omega, fun n => ⟨n, rfl, fun b H2 hb hB2 k2 => ?_⟩⟩
      have sm2 : Same H H2 := same_keep sm hb fun c o hc z => (k2 c hc).trans z
      refine ⟨3, rfl, by decide, by decide, ?_⟩
      refine for_range (lo := 0) (n := 3) (fun j σ H3 => Same H H3 ∧ BoxAt H3 b ∧ ∃ y3, σ = [some (.ref a), some (.int (0 + i)), some (.ref b), y3, y4, y5])
        ⟨sm2, hB2, y3, rfl⟩ (fun j σ H3 hj hP => ?_) (fun σ H3 hP => ?_)
      · obtain ⟨sm3, hB3, z3, rfl⟩ := hP
        refine ⟨_, rfl, b, rfl, hB3, fun H4 hB4 k4 => ⟨_, rfl, ?_⟩⟩
        refine iteF ⟨?_, hB4, _, rfl⟩
        intro c o z
        exact k4 c o (ne_of_none (sm c o z) hb) (sm3 c o z)
      · obtain ⟨sm3, hB3, z3, rfl⟩ := hP
        exact ⟨sm3, _, _, _, _, _, rfl⟩
    · obtain ⟨sm, y1, y2, y3, y4, y5, rfl⟩ := hP
      refine ⟨(by show 4 ≤ sizeLine; decide), fun l hl2 => ⟨l, rfl, ⟨_, SqL.of upd_same⟩, ?_⟩⟩
      have smL : Same H (upd H' l (.lst [.int 0, .int 1, .int 16, .int 17])) := sm.trans (same_new hl2)
      have hll : (upd H' l (.lst [.int 0, .int 1, .int 16, .int 17])) l = some (.lst [.int 0, .int 1, .int 16, .int 17]) := upd_same
      generalize upd H' l (.lst [.int 0, .int 1, .int 16, .int 17]) = HL at *
      refine for_list (K := K) (a := l) (xs := [.int 0, .int 1, .int 16, .int 17]) (fun i σ H2 => Same HL H2 ∧ ∃ y1 y2 y3 y4 y5, σ = [some (.ref a), y1, y2, y3, y4, y5])
        ⟨Same.refl _, y1, y2, y3, y4, y5, rfl⟩ (fun i σ H2 _ hP => SqL.of (hP.1 _ _ hll)) (fun i x σ H2 hi hP => ?_) (fun σ H2 hP => q H2)
      obtain ⟨sm2, z1, z2, z3, z4, z5, rfl⟩ := hP
      have hx : ∃ m : Nat, x = .int m ∧ (m = 0 ∨ m = 1 ∨ m = 16 ∨ m = 17) := by
        have hm := List.mem_of_getElem? hi
        simp only [List.mem_cons, List.not_mem_nil, or_false] at hm
        rcases hm with rfl | rfl | rfl | rfl
        · exact ⟨0, rfl, by omega⟩
        · exact ⟨1, rfl, by omega⟩
        · exact ⟨16, rfl, by omega⟩
        · exact ⟨17, rfl, by omega⟩
      obtain ⟨m, rfl, hm⟩ := hx
      refine ⟨_, rfl, m, rfl, by omega, by omega, fun D hD0 => ?_⟩
      refine lc_range (lo := 0) (n := ((m : Nat) : Int).toNat) (fun i H3 => Same H2 H3 ∧ ∃ ms : List Int, ms.length = i ∧ (∀ n ∈ ms, 0 ≤ n ∧ n ≤ top30) ∧ H3 D = some (.lst (ms.map V.int)))
        ⟨same_new hD0, [], rfl, (fun _ z => nomatch z), upd_same⟩ (fun i H3 hi hP => ?_) (fun H3 hP => ?_)
      · obtain ⟨sm3, ms, hlen, hbig, hD⟩ := hP
        refine ⟨rfl, ?_⟩
        refine ⟨_, rfl, _, rfl, a, ns, _, rfl, ((smL.trans sm2).trans sm3).seq hS, hl, by omega, fun n => ⟨_, _, rfl, rfl, ⟨by decide, by decide, by decide⟩, _, _, rfl, rfl, (by show (0 : Int) < 10 ^ (30 : Int).toNat; decide), ms.map V.int, hD, ?_, ?_, ms ++ [n % 10 ^ (30 : Int).toNat], ?_, ?_, ?_⟩⟩
        · rw [List.length_map]
          exact small1000 (by omega)
        · intro c o z
          have z2 := sm3 c o z
          rw [upd_ne (ne_of_none z hD0)]
          exact z2
        · rw [List.length_append, hlen]
          rfl
        · intro x hx
          rcases List.mem_append.mp hx with hx | hx
          · exact hbig x hx
          · rw [List.mem_singleton.mp hx]
            have h1 := Int.emod_nonneg n (show (10 ^ (30 : Int).toNat : Int) ≠ 0 by decide)
            have h2 := Int.emod_lt_of_pos n (show (0 : Int) < 10 ^ (30 : Int).toNat by decide)
            refine ⟨h1, ?_⟩
            have e : (10 ^ (30 : Int).toNat : Int) = top30 + 1 := by decide
            omega
        · rw [upd_same, List.map_append]
          rfl
      · obtain ⟨sm3, ms, hlen, hbig, hD⟩ := hP
        have hlen2 : ms.length = m := by omega
        have hl18 : (ms.map V.int).length ≤ 18 := by
          rw [List.length_map]
          omega
        have ew := worths_ok hbig
        rw [hlen2] at ew
        rcases hm with rfl | rfl | rfl | rfl
        · have e0 : worthsB (ms.map V.int) = false := by
            rw [ew]
            decide
          refine ⟨_, rfl, _, rfl, .inr ⟨fun H2 s2 => ⟨_, .base (.lst (s2 _ _ hD)), la_list⟩, D, ms.map V.int, rfl, hl18, .inl hD, kn_ints, fun H4 s4 => ⟨_, _, rfl, .d1 (.dp (.bl _)), shb _, lnb _, dpb _, _, rfl, _, _, rfl, rfl, _, rfl, iteF ⟨_, _, rfl, .d1 (.dp (.bl _)), shb _, lnb _, dpb _, rfl, _, rfl, ?_⟩⟩⟩⟩
          rw [e0]
          refine ifSame ?_
          refine ⟨_, rfl, D, ms.map V.int, rfl, .inl ⟨SqL.of (s4 _ _ hD), fun t ht => ⟨_, rfl, .inr ⟨fun H2 s2 => ⟨_, .base (.tup (s2 _ _ upd_same)), la_tuple⟩, t, ms.map V.int, rfl, hl18, .inr upd_same, kn_ints, fun H5 s5 => ⟨_, _, rfl, .d1 (.dp (.bl _)), shb _, lnb _, dpb _, _, rfl, _, _, rfl, rfl, _, rfl, iteF ⟨_, _, rfl, .d1 (.dp (.bl _)), shb _, lnb _, dpb _, rfl, _, rfl, ?_⟩⟩⟩⟩⟩⟩
          rw [e0]
          refine ifSame ?_
          exact ⟨(((sm2.trans sm3).trans s4).trans (same_new ht)).trans s5, _, _, _, _, _, rfl⟩
        · have e0 : worthsB (ms.map V.int) = true := by
            rw [ew]
            decide
          refine ⟨_, rfl, _, rfl, .inr ⟨fun H2 s2 => ⟨_, .base (.lst (s2 _ _ hD)), la_list⟩, D, ms.map V.int, rfl, hl18, .inl hD, kn_ints, fun H4 s4 => ⟨_, _, rfl, .d1 (.dp (.bl _)), shb _, lnb _, dpb _, _, rfl, _, _, rfl, rfl, _, rfl, iteT ⟨_, _, rfl, rfl, _, _, rfl, .d1 (.dp (.bl _)), shb _, lnb _, dpb _, rfl, _, rfl, ?_⟩⟩⟩⟩
          rw [e0]
          refine ifSame ?_
          refine ⟨_, rfl, D, ms.map V.int, rfl, .inl ⟨SqL.of (s4 _ _ hD), fun t ht => ⟨_, rfl, .inr ⟨fun H2 s2 => ⟨_, .base (.tup (s2 _ _ upd_same)), la_tuple⟩, t, ms.map V.int, rfl, hl18, .inr upd_same, kn_ints, fun H5 s5 => ⟨_, _, rfl, .d1 (.dp (.bl _)), shb _, lnb _, dpb _, _, rfl, _, _, rfl, rfl, _, rfl, iteT ⟨_, _, rfl, rfl, _, _, rfl, .d1 (.dp (.bl _)), shb _, lnb _, dpb _, rfl, _, rfl, ?_⟩⟩⟩⟩⟩⟩
          rw [e0]
          refine ifSame ?_
          exact ⟨(((sm2.trans sm3).trans s4).trans (same_new ht)).trans s5, _, _, _, _, _, rfl⟩
        · have e0 : worthsB (ms.map V.int) = true := by
            rw [ew]
            decide
          refine ⟨_, rfl, _, rfl, .inr ⟨fun H2 s2 => ⟨_, .base (.lst (s2 _ _ hD)), la_list⟩, D, ms.map V.int, rfl, hl18, .inl hD, kn_ints, fun H4 s4 => ⟨_, _, rfl, .d1 (.dp (.bl _)), shb _, lnb _, dpb _, _, rfl, _, _, rfl, rfl, _, rfl, iteT ⟨_, _, rfl, rfl, _, _, rfl, .d1 (.dp (.bl _)), shb _, lnb _, dpb _, rfl, _, rfl, ?_⟩⟩⟩⟩
          rw [e0]
          refine ifSame ?_
          refine ⟨_, rfl, D, ms.map V.int, rfl, .inl ⟨SqL.of (s4 _ _ hD), fun t ht => ⟨_, rfl, .inr ⟨fun H2 s2 => ⟨_, .base (.tup (s2 _ _ upd_same)), la_tuple⟩, t, ms.map V.int, rfl, hl18, .inr upd_same, kn_ints, fun H5 s5 => ⟨_, _, rfl, .d1 (.dp (.bl _)), shb _, lnb _, dpb _, _, rfl, _, _, rfl, rfl, _, rfl, iteT ⟨_, _, rfl, rfl, _, _, rfl, .d1 (.dp (.bl _)), shb _, lnb _, dpb _, rfl, _, rfl, ?_⟩⟩⟩⟩⟩⟩
          rw [e0]
          refine ifSame ?_
          exact ⟨(((sm2.trans sm3).trans s4).trans (same_new ht)).trans s5, _, _, _, _, _, rfl⟩
        · have e0 : worthsB (ms.map V.int) = false := by
            rw [ew]
            decide
          refine ⟨_, rfl, _, rfl, .inr ⟨fun H2 s2 => ⟨_, .base (.lst (s2 _ _ hD)), la_list⟩, D, ms.map V.int, rfl, hl18, .inl hD, kn_ints, fun H4 s4 => ⟨_, _, rfl, .d1 (.dp (.bl _)), shb _, lnb _, dpb _, _, rfl, _, _, rfl, rfl, _, rfl, iteT ⟨_, _, rfl, rfl, _, _, rfl, .d1 (.dp (.bl _)), shb _, lnb _, dpb _, rfl, _, rfl, ?_⟩⟩⟩⟩
          rw [e0]
          refine ifSame ?_
          refine ⟨_, rfl, D, ms.map V.int, rfl, .inl ⟨SqL.of (s4 _ _ hD), fun t ht => ⟨_, rfl, .inr ⟨fun H2 s2 => ⟨_, .base (.tup (s2 _ _ upd_same)), la_tuple⟩, t, ms.map V.int, rfl, hl18, .inr upd_same, kn_ints, fun H5 s5 => ⟨_, _, rfl, .d1 (.dp (.bl _)), shb _, lnb _, dpb _, _, rfl, _, _, rfl, rfl, _, rfl, iteT ⟨_, _, rfl, rfl, _, _, rfl, .d1 (.dp (.bl _)), shb _, lnb _, dpb _, rfl, _, rfl, ?_⟩⟩⟩⟩⟩⟩
          rw [e0]
          refine ifSame ?_
          exact ⟨(((sm2.trans sm3).trans s4).trans (same_new ht)).trans s5, _, _, _, _, _, rfl⟩
end
end Kw
namespace Kw
open PySem PySem.Spec PyProof.Rows L2 Gd
theorem defAt {K : PySem.W.Frag} {mg : Str → Option Value} {x : Str} {st : Stmt} {ps : List Str} {f : Addr} {oc : Value} {od an : Option Addr} {osl : Array (Option Value)} {kV doc pm cdv ct : Value}
    (m : mg x = some (.ref f))
    (l : K.lookup f = some ⟨oc, od, .func (PySem.W.fnOf x x (defArgs st) (defBody st) (defScope st) .none kV doc pm an cdv ct), osl⟩)
    (c : PySem.W.codeIn K cdv x = true) (k : PySem.W.keepIn K (.ref f) = true)
    (b : ∀ (kV doc pm : Value) (an : Option Addr) (cdv ct : Value) (us : List Value), us.length = ps.length →
      bindArgs (PySem.W.fnOf x x (defArgs st) (defBody st) (defScope st) .none kV doc pm an cdv ct) ⟨us, []⟩ = pure (ps.zip us)) :
    DefAt K mg x st ps := by
  have F := fun_mk (st := st) l c k
  exact ⟨f, _, F, m, F.binds b⟩
theorem all_mk {l : PySem.W.OpenLaw} {w : World} {K : PySem.W.Frag} {h : Heap} {mg : Str → Option Value} {fa f0 f1 f2 f3 f4 f5 f6 f7 f8 f9 f10 f11 f12 : Addr} (X : K.In h) (G : h.Ns mainGlobals mg) (hfa : mg "law" = some (.ref fa))
    {od0 an0 od1 an1 od2 an2 od3 an3 od4 an4 od5 an5 od6 an6 od7 an7 od8 an8 od9 an9 od10 an10 od11 an11 od12 an12 : Option Addr} {sl0 sl1 sl2 sl3 sl4 sl5 sl6 sl7 sl8 sl9 sl10 sl11 sl12 : Array (Option Value)}
    {oc0 kV0 dc0 pm0 cd0 ct0 oc1 kV1 dc1 pm1 cd1 ct1 oc2 kV2 dc2 pm2 cd2 ct2 oc3 kV3 dc3 pm3 cd3 ct3 oc4 kV4 dc4 pm4 cd4 ct4 oc5 kV5 dc5 pm5 cd5 ct5 oc6 kV6 dc6 pm6 cd6 ct6 oc7 kV7 dc7 pm7 cd7 ct7 oc8 kV8 dc8 pm8 cd8 ct8 oc9 kV9 dc9 pm9 cd9 ct9 oc10 kV10 dc10 pm10 cd10 ct10 oc11 kV11 dc11 pm11 cd11 ct11 oc12 kV12 dc12 pm12 cd12 ct12 : Value} {t_MOST_WORTH t_MOST_PLACES : Tok}
    (a0 : PySem.W.nsIn K mainGlobals "is_whole" = some (some (.ref f0)))
    (l0 : K.lookup f0 = some ⟨oc0, od0, .func (PySem.W.fnOf "is_whole" "is_whole" (defArgs s_is_whole) (defBody s_is_whole) (defScope s_is_whole) .none kV0 dc0 pm0 an0 cd0 ct0), sl0⟩)
    (c0 : PySem.W.codeIn K cd0 "is_whole" = true) (k0 : PySem.W.keepIn K (.ref f0) = true)
    (a1 : PySem.W.nsIn K mainGlobals "is_worth" = some (some (.ref f1)))
    (l1 : K.lookup f1 = some ⟨oc1, od1, .func (PySem.W.fnOf "is_worth" "is_worth" (defArgs s_is_worth) (defBody s_is_worth) (defScope s_is_worth) .none kV1 dc1 pm1 an1 cd1 ct1), sl1⟩)
    (c1 : PySem.W.codeIn K cd1 "is_worth" = true) (k1 : PySem.W.keepIn K (.ref f1) = true)
    (a2 : PySem.W.nsIn K mainGlobals "is_worths" = some (some (.ref f2)))
    (l2 : K.lookup f2 = some ⟨oc2, od2, .func (PySem.W.fnOf "is_worths" "is_worths" (defArgs s_is_worths) (defBody s_is_worths) (defScope s_is_worths) .none kV2 dc2 pm2 an2 cd2 ct2), sl2⟩)
    (c2 : PySem.W.codeIn K cd2 "is_worths" = true) (k2 : PySem.W.keepIn K (.ref f2) = true)
    (a3 : PySem.W.nsIn K mainGlobals "_law_cell" = some (some (.ref f3)))
    (l3 : K.lookup f3 = some ⟨oc3, od3, .func (PySem.W.fnOf "_law_cell" "_law_cell" (defArgs s__law_cell) (defBody s__law_cell) (defScope s__law_cell) .none kV3 dc3 pm3 an3 cd3 ct3), sl3⟩)
    (c3 : PySem.W.codeIn K cd3 "_law_cell" = true) (k3 : PySem.W.keepIn K (.ref f3) = true)
    (a4 : PySem.W.nsIn K mainGlobals "_law_box" = some (some (.ref f4)))
    (l4 : K.lookup f4 = some ⟨oc4, od4, .func (PySem.W.fnOf "_law_box" "_law_box" (defArgs s__law_box) (defBody s__law_box) (defScope s__law_box) .none kV4 dc4 pm4 an4 cd4 ct4), sl4⟩)
    (c4 : PySem.W.codeIn K cd4 "_law_box" = true) (k4 : PySem.W.keepIn K (.ref f4) = true)
    (a5 : PySem.W.nsIn K mainGlobals "_law_take" = some (some (.ref f5)))
    (l5 : K.lookup f5 = some ⟨oc5, od5, .func (PySem.W.fnOf "_law_take" "_law_take" (defArgs s__law_take) (defBody s__law_take) (defScope s__law_take) .none kV5 dc5 pm5 an5 cd5 ct5), sl5⟩)
    (c5 : PySem.W.codeIn K cd5 "_law_take" = true) (k5 : PySem.W.keepIn K (.ref f5) = true)
    (a6 : PySem.W.nsIn K mainGlobals "_law_number" = some (some (.ref f6)))
    (l6 : K.lookup f6 = some ⟨oc6, od6, .func (PySem.W.fnOf "_law_number" "_law_number" (defArgs s__law_number) (defBody s__law_number) (defScope s__law_number) .none kV6 dc6 pm6 an6 cd6 ct6), sl6⟩)
    (c6 : PySem.W.codeIn K cd6 "_law_number" = true) (k6 : PySem.W.keepIn K (.ref f6) = true)
    (a7 : PySem.W.nsIn K mainGlobals "_law_thing" = some (some (.ref f7)))
    (l7 : K.lookup f7 = some ⟨oc7, od7, .func (PySem.W.fnOf "_law_thing" "_law_thing" (defArgs s__law_thing) (defBody s__law_thing) (defScope s__law_thing) .none kV7 dc7 pm7 an7 cd7 ct7), sl7⟩)
    (c7 : PySem.W.codeIn K cd7 "_law_thing" = true) (k7 : PySem.W.keepIn K (.ref f7) = true)
    (a8 : PySem.W.nsIn K mainGlobals "_law_is" = some (some (.ref f8)))
    (l8 : K.lookup f8 = some ⟨oc8, od8, .func (PySem.W.fnOf "_law_is" "_law_is" (defArgs s__law_is) (defBody s__law_is) (defScope s__law_is) .none kV8 dc8 pm8 an8 cd8 ct8), sl8⟩)
    (c8 : PySem.W.codeIn K cd8 "_law_is" = true) (k8 : PySem.W.keepIn K (.ref f8) = true)
    (a9 : PySem.W.nsIn K mainGlobals "_law_are_worths" = some (some (.ref f9)))
    (l9 : K.lookup f9 = some ⟨oc9, od9, .func (PySem.W.fnOf "_law_are_worths" "_law_are_worths" (defArgs s__law_are_worths) (defBody s__law_are_worths) (defScope s__law_are_worths) .none kV9 dc9 pm9 an9 cd9 ct9), sl9⟩)
    (c9 : PySem.W.codeIn K cd9 "_law_are_worths" = true) (k9 : PySem.W.keepIn K (.ref f9) = true)
    (a10 : PySem.W.nsIn K mainGlobals "_law_row" = some (some (.ref f10)))
    (l10 : K.lookup f10 = some ⟨oc10, od10, .func (PySem.W.fnOf "_law_row" "_law_row" (defArgs s__law_row) (defBody s__law_row) (defScope s__law_row) .none kV10 dc10 pm10 an10 cd10 ct10), sl10⟩)
    (c10 : PySem.W.codeIn K cd10 "_law_row" = true) (k10 : PySem.W.keepIn K (.ref f10) = true)
    (a11 : PySem.W.nsIn K mainGlobals "_law_right" = some (some (.ref f11)))
    (l11 : K.lookup f11 = some ⟨oc11, od11, .func (PySem.W.fnOf "_law_right" "_law_right" (defArgs s__law_right) (defBody s__law_right) (defScope s__law_right) .none kV11 dc11 pm11 an11 cd11 ct11), sl11⟩)
    (c11 : PySem.W.codeIn K cd11 "_law_right" = true) (k11 : PySem.W.keepIn K (.ref f11) = true)
    (a12 : PySem.W.nsIn K mainGlobals "law" = some (some (.ref f12)))
    (l12 : K.lookup f12 = some ⟨oc12, od12, .func (PySem.W.fnOf "law" "law" (defArgs s_law) (defBody s_law) (defScope s_law) .none kV12 dc12 pm12 an12 cd12 ct12), sl12⟩)
    (c12 : PySem.W.codeIn K cd12 "law" = true) (k12 : PySem.W.keepIn K (.ref f12) = true)
    (z_len : PySem.W.nsIn K mainGlobals "len" = some none)
    (z_max : PySem.W.nsIn K mainGlobals "max" = some none)
    (z_min : PySem.W.nsIn K mainGlobals "min" = some none)
    (z_all : PySem.W.nsIn K mainGlobals "all" = some none)
    (z_range : PySem.W.nsIn K mainGlobals "range" = some none)
    (z_repr : PySem.W.nsIn K mainGlobals "repr" = some none)
    (z_isinstance : PySem.W.nsIn K mainGlobals "isinstance" = some none)
    (z_int : PySem.W.nsIn K mainGlobals "int" = some none)
    (z_bool : PySem.W.nsIn K mainGlobals "bool" = some none)
    (z_list : PySem.W.nsIn K mainGlobals "list" = some none)
    (z_tuple : PySem.W.nsIn K mainGlobals "tuple" = some none)
    (i_MOST_WORTH : PySem.W.nsIn K mainGlobals "MOST_WORTH" = some (some (.int (10 ^ 30 - 1) t_MOST_WORTH)))
    (i_MOST_PLACES : PySem.W.nsIn K mainGlobals "MOST_PLACES" = some (some (.int 16 t_MOST_PLACES)))
    : ∃ fd : FuncData, (∀ (s : Shared) (v : Value), BindsTo s fd ⟨[v], []⟩ [("_law_script", v)]) ∧ ∀ base : Heap, K.In base → base.Ns mainGlobals mg → FnG l.prog w K mg base CX0 6 fa fd ["_law_script"] (spLaw K) := by
  have e := hfa.symm.trans (PySem.W.mg_of X G a12)
  cases e
  have d_is_whole : DefAt K mg "is_whole" s_is_whole ["thing", "low", "high"] := defAt (PySem.W.mg_of X G a0) l0 c0 k0 (fun _ _ _ _ _ _ us hl => match us, hl with | [_, _, _], _ => rfl)
  have d_is_worth : DefAt K mg "is_worth" s_is_worth ["thing"] := defAt (PySem.W.mg_of X G a1) l1 c1 k1 (fun _ _ _ _ _ _ us hl => match us, hl with | [_], _ => rfl)
  have d_is_worths : DefAt K mg "is_worths" s_is_worths ["thing"] := defAt (PySem.W.mg_of X G a2) l2 c2 k2 (fun _ _ _ _ _ _ us hl => match us, hl with | [_], _ => rfl)
  have d__law_cell : DefAt K mg "_law_cell" s__law_cell ["_law_script", "_law_k"] := defAt (PySem.W.mg_of X G a3) l3 c3 k3 (fun _ _ _ _ _ _ us hl => match us, hl with | [_, _], _ => rfl)
  have d__law_box : DefAt K mg "_law_box" s__law_box ["_law_cell_here"] := defAt (PySem.W.mg_of X G a4) l4 c4 k4 (fun _ _ _ _ _ _ us hl => match us, hl with | [_], _ => rfl)
  have d__law_take : DefAt K mg "_law_take" s__law_take ["_law_box_here", "_law_many"] := defAt (PySem.W.mg_of X G a5) l5 c5 k5 (fun _ _ _ _ _ _ us hl => match us, hl with | [_, _], _ => rfl)
  have d__law_number : DefAt K mg "_law_number" s__law_number ["_law_box_here"] := defAt (PySem.W.mg_of X G a6) l6 c6 k6 (fun _ _ _ _ _ _ us hl => match us, hl with | [_], _ => rfl)
  have d__law_thing : DefAt K mg "_law_thing" s__law_thing ["_law_box_here"] := defAt (PySem.W.mg_of X G a7) l7 c7 k7 (fun _ _ _ _ _ _ us hl => match us, hl with | [_], _ => rfl)
  have d__law_is : DefAt K mg "_law_is" s__law_is ["_law_thing_here", "_law_low", "_law_high"] := defAt (PySem.W.mg_of X G a8) l8 c8 k8 (fun _ _ _ _ _ _ us hl => match us, hl with | [_, _, _], _ => rfl)
  have d__law_are_worths : DefAt K mg "_law_are_worths" s__law_are_worths ["_law_thing_here"] := defAt (PySem.W.mg_of X G a9) l9 c9 k9 (fun _ _ _ _ _ _ us hl => match us, hl with | [_], _ => rfl)
  have d__law_row : DefAt K mg "_law_row" s__law_row ["_law_box_here"] := defAt (PySem.W.mg_of X G a10) l10 c10 k10 (fun _ _ _ _ _ _ us hl => match us, hl with | [_], _ => rfl)
  have d__law_right : DefAt K mg "_law_right" s__law_right ["_law_box_here"] := defAt (PySem.W.mg_of X G a11) l11 c11 k11 (fun _ _ _ _ _ _ us hl => match us, hl with | [_], _ => rfl)
  have F_law := fun_mk (st := s_law) l12 c12 k12
  refine ⟨PySem.W.fnOf "law" "law" (defArgs s_law) (defBody s_law) (defScope s_law) .none kV12 dc12 pm12 an12 cd12 ct12, fun s v => .of_eq rfl, fun base _ _ => ?_⟩
  have T : Txt K mg := ⟨PySem.W.mg_none_of X G z_len, PySem.W.mg_none_of X G z_max, PySem.W.mg_none_of X G z_min, PySem.W.mg_none_of X G z_all, PySem.W.mg_none_of X G z_range, PySem.W.mg_none_of X G z_repr, PySem.W.mg_none_of X G z_isinstance, PySem.W.mg_none_of X G z_int, PySem.W.mg_none_of X G z_bool, PySem.W.mg_none_of X G z_list, PySem.W.mg_none_of X G z_tuple, ⟨t_MOST_WORTH, PySem.W.mg_of X G i_MOST_WORTH⟩, ⟨t_MOST_PLACES, PySem.W.mg_of X G i_MOST_PLACES⟩⟩
  have c1 := ok_cell (P := l.prog) (w := w) (base := base) T d__law_cell
  have c2 := ok_box (P := l.prog) (w := w) (base := base) T d__law_box
  have c3 := ok_take (P := l.prog) (w := w) (base := base) T d__law_take
  have c4 := ok_number c3 d__law_number
  have c5 := ok_thing c3 c4 d__law_thing
  have c6 := ok_whole (P := l.prog) (w := w) (base := base) T d_is_whole
  have c7 := ok_lawis (P := l.prog) (w := w) (base := base) T d__law_is
  have c8 := ok_worth T c6 d_is_worth
  have c9 := ok_worths T c8 d_is_worths
  have c10 := ok_areworths T c7 d__law_are_worths
  have c11 := ok_row T c3 c4 c5 d__law_row
  have c12 := ok_right T c3 c4 c5 c11 c6 c8 c9 c7 c10 d__law_right
  exact ok_law T F_law c1 c2 c12 c9
end Kw
open PySem PySem.W PyProof.Rows
set_option maxRecDepth 100000 in
set_option maxHeartbeats 0 in
theorem PySem.Challenge.cw_makeskept_k01_worths_and_rows_holds : PySem.Challenge.rw_makeskept_k01_worths_and_rows.Holds := by
  w_on; o_law; k_head; (case hw => w_witness2)
  k_fill
  refine Gd.walkG (l := PySem.Challenge.rw_makeskept_k01_worths_and_rows) (n := 63) (k := 6) (x := "_law_script") (CX := fun _ => L2.CX0) (sp := fun w => Kw.spLaw _) rfl (by decide) rfl ⟨rfl, by decide, by decide⟩ (fun w h Y => PySem.W.kIn_of Y) ?F (fun _ _ a ns hl _ hS => ⟨a, ns, rfl, hS, hl, fun _ => rfl⟩) (fun _ _ _ _ _ h => h)
  case F =>
    intro w mg fa h KX G hmg
    refine' Kw.all_mk KX G hmg ?a0 ?l0 ?c0 ?k0 ?a1 ?l1 ?c1 ?k1 ?a2 ?l2 ?c2 ?k2 ?a3 ?l3 ?c3 ?k3 ?a4 ?l4 ?c4 ?k4 ?a5 ?l5 ?c5 ?k5 ?a6 ?l6 ?c6 ?k6 ?a7 ?l7 ?c7 ?k7 ?a8 ?l8 ?c8 ?k8 ?a9 ?l9 ?c9 ?k9 ?a10 ?l10 ?c10 ?k10 ?a11 ?l11 ?c11 ?k11 ?a12 ?l12 ?c12 ?k12 ?z_len ?z_max ?z_min ?z_all ?z_range ?z_repr ?z_isinstance ?z_int ?z_bool ?z_list ?z_tuple ?i_MOST_WORTH ?i_MOST_PLACES
    (case a0 => k_is)
    (case l0 => k_is)
    (case c0 => k_is)
    (case k0 => k_is)
    (case a1 => k_is)
    (case l1 => k_is)
    (case c1 => k_is)
    (case k1 => k_is)
    (case a2 => k_is)
    (case l2 => k_is)
    (case c2 => k_is)
    (case k2 => k_is)
    (case a3 => k_is)
    (case l3 => k_is)
    (case c3 => k_is)
    (case k3 => k_is)
    (case a4 => k_is)
    (case l4 => k_is)
    (case c4 => k_is)
    (case k4 => k_is)
    (case a5 => k_is)
    (case l5 => k_is)
    (case c5 => k_is)
    (case k5 => k_is)
    (case a6 => k_is)
    (case l6 => k_is)
    (case c6 => k_is)
    (case k6 => k_is)
    (case a7 => k_is)
    (case l7 => k_is)
    (case c7 => k_is)
    (case k7 => k_is)
    (case a8 => k_is)
    (case l8 => k_is)
    (case c8 => k_is)
    (case k8 => k_is)
    (case a9 => k_is)
    (case l9 => k_is)
    (case c9 => k_is)
    (case k9 => k_is)
    (case a10 => k_is)
    (case l10 => k_is)
    (case c10 => k_is)
    (case k10 => k_is)
    (case a11 => k_is)
    (case l11 => k_is)
    (case c11 => k_is)
    (case k11 => k_is)
    (case a12 => k_is)
    (case l12 => k_is)
    (case c12 => k_is)
    (case k12 => k_is)
    (case z_len => k_is)
    (case z_max => k_is)
    (case z_min => k_is)
    (case z_all => k_is)
    (case z_range => k_is)
    (case z_repr => k_is)
    (case z_isinstance => k_is)
    (case z_int => k_is)
    (case z_bool => k_is)
    (case z_list => k_is)
    (case z_tuple => k_is)
    (case i_MOST_WORTH => k_is)
    (case i_MOST_PLACES => k_is)

import PyProof.Rows.All
import Wide.All
import OpenK.AllK
import Wide.FinOn
import HandS.ForMost
import HandS.IsInst
import HandS.TupLe
import PyProof.ReprLen
import KE.KExcLine
import HandS.Exc
import HandS.ExcOwn
import HandS.WordsExc
import KE.KExcIs
import HandS.TryOnly
import HandS.Walk
import HandS.Replace
import KE.IntTextLaws
import KE.RegKSuper
import PySem.Challenge.RW_makeskept_k04_worths_written_and_read
set_option Elab.async false
set_option linter.all false
set_option maxRecDepth 100000
set_option maxHeartbeats 4000000
/-! A promise of a def that is kept where nothing is being shown (no repr under way), and repr of data under it. -/
namespace Gd
open PySem PySem.Spec PyProof.Rows L2

/-- as FnOk, asked only where no repr is under way -/
structure FnG (P : Program) (w : World) (K : PySem.W.Frag) (mg : Str → Option Value) (base : Heap)
    (CX : CXT) (k : Nat) (f : Addr) (fd : FuncData) (ps : List Str) (sp : Sp) : Prop where
  arity : ∀ vs H Q E, sp vs H Q E → vs.length = ps.length
  go : ∀ (A : Around) (outer : List Env) (s : Shared) (H : Hp) (args : Args) (us : List Value) (vs : List V)
    (Q : VK) (E : XK), A.guards = some [] → Room k A → Env0 P w K mg base A outer s H →
    BindsTo s fd args (ps.zip us) → Vals vs us → sp vs H Q E →
    codeAny (model P w) A (.call (.ref f) args) (CR CX outer P w H s Q E) s

section
variable {P : Program} {w : World} {K : PySem.W.Frag} {mg : Str → Option Value} {base : Heap}
theorem FnG.low {CX : CXT} {j k : Nat} {f : Addr} {fd : FuncData} {ps : List Str} {sp : Sp}
    (F : FnG P w K mg base CX j f fd ps sp) (h : j ≤ k) : FnG P w K mg base CX k f fd ps sp :=
  ⟨F.arity, fun A o s H ar us vs Q E g r => F.go A o s H ar us vs Q E g (r.mono h)⟩
theorem FnG.ofOk {CX : CXT} {k : Nat} {f : Addr} {fd : FuncData} {ps : List Str} {sp : Sp}
    (F : FnOk P w K mg base CX k f fd ps sp) : FnG P w K mg base CX k f fd ps sp :=
  ⟨F.len, fun A o s H ar us vs Q E _ r => F.run A o s H ar us vs Q E r⟩

/-- the rule for a def, told that no repr is under way -/
theorem fnG_of {CX : CXT} {k : Nat} {f : Addr} {name qual : Str} {params : Arguments} {body : List Stmt}
    {scope : Scope} {dV kV doc pm cdv ct oc : Value} {an od : Option Addr} {osl : Array (Option Value)}
    {N ps : List Str} {sp : Sp}
    (lk : K.lookup f = some ⟨oc, od, .func (PySem.W.fnOf name qual params body scope dV kV doc pm an cdv ct), osl⟩)
    (cin : PySem.W.codeIn K cdv qual = true) (S : FnScope N ps scope)
    (ar : ∀ vs H Q E, sp vs H Q E → vs.length = ps.length)
    (bd : ∀ (A : Around) (outer : List Env) (s : Shared) (H : Hp) (vs : List V) (Q : VK) (E : XK),
      A.guards = some [] → Room k (A.deeper (envOfC qual scope s.heap.objs.size f cdv)) → sp vs H Q E →
      ∃ t, PSs (cxOf CX P w K mg base N qual scope f cdv A outer s H E) body t ∧
        t { nx := fun _ H' => Q .non H', rt := Q } (start N vs) H) :
    FnG P w K mg base CX (k + 1) f (PySem.W.fnOf name qual params body scope dV kV doc pm an cdv ct) ps sp := by
  constructor
  · exact ar
  intro A outer s H args us vs Q E hG room env bind rel prem
  have long := ar _ _ _ _ prem
  have kin : K.In s.heap := env.mod.kin.keeps fun b o z => (env.bs b o z).1
  have nl : s.heap.NoLimit := env.mod.nolimit.keeps fun b o z => (env.bs b o z).1
  have kinds : ∀ y ∈ ps.zip us, scope.names.lookup y.1 = some .local ∨
      (scope.names.lookup y.1 = some .cell ∧
        ((cellsFrom (s.heap.objs.size + 1) scope.names []).lookup y.1).isSome = true) := by
    rintro ⟨n, v⟩ hy
    cases S.par n (List.of_mem_zip hy).1 with
    | inl q => exact .inl q
    | inr q => exact .inr ⟨q, PySem.W.cellsFrom_some _ _ _ (.inl q)⟩
  apply codeAny_call_function room.depth (kin _ _ lk) rfl S.co S.gen rfl (PySem.W.codeRec_of kin cin)
  apply bind
  apply wpAny_newFunctionEnv_cells S.kind kinds
  intro en hen s1 x
  subst hen
  refine ⟨nl.keeps x.toInCall.keep, ?_⟩
  apply codeAny_func
  obtain ⟨t, der, rd⟩ := bd A outer s H vs Q E hG (room.deeper _) prem
  have J := inv_start (CX := CX) (E := E) (mg := mg) S room.hd env long rel x
  apply wpAny_mono (der.run [] s1 (start N vs) H _ J rd)
  · intro fl s' hs
    cases fl with
    | ret u =>
      obtain ⟨v, _, H', J', rv, q⟩ := hs
      exact ⟨v, H', J'.os, J'.bare, J'.base, J'.hok, rv, q⟩
    | next =>
      obtain ⟨_, H', J', q⟩ := hs
      exact ⟨.non, H', J'.os, J'.bare, J'.base, J'.hok, rfl, q⟩
    | brk =>
      obtain ⟨_, _, _, q⟩ := hs
      exact q.elim
    | cont =>
      obtain ⟨_, _, _, q⟩ := hs
      exact q.elim
  · intro e s' hs
    exact hs
theorem okG {x qual : Str} {st : Stmt} {f : Addr} {fd : FuncData} {N ps : List Str} {k : Nat} {sp : Sp}
    (F : Fun K x qual st f fd) (S : FnScope N ps (defScope st))
    (ar : ∀ vs H Q E, sp vs H Q E → vs.length = ps.length)
    (bd : ∀ (cdv : Value) (A : Around) (outer : List Env) (s : Shared) (H : Hp) (vs : List V) (Q : VK) (E : XK),
      A.guards = some [] → Room k (A.deeper (envOfC qual (defScope st) s.heap.objs.size f cdv)) → sp vs H Q E →
      ∃ t, PSs (cxOf CX0 P w K mg base N qual (defScope st) f cdv A outer s H E).nox (defBody st) t ∧
        t { nx := fun _ H' => Q .non H', rt := Q } (start N vs) H) :
    FnG P w K mg base CX0 (k + 1) f fd ps sp := by
  obtain ⟨oc, od, kV, doc, pm, an, cdv, ct, osl, rfl, lk, cin⟩ := F.ex
  apply fnG_of lk cin S ar
  intro A outer s H vs Q E hG room prem
  obtain ⟨t, der, rd⟩ := bd cdv A outer s H vs Q E hG room prem
  exact ⟨t, der.nox, rd⟩
end

section
variable {X : Cx} {CX : CXT} {k : Nat} {f : Addr} {fd : FuncData} {ps : List Str} {sp : Sp} {dvs : List V}
  {ds : List Value} {E : XK} {x : Str} {p pos : Pos} {e : Expr} {es : List Expr} {t : TA}
theorem enterG {pins : List (Addr × Obj)} {σ : L2.St} {H : Hp} {s : Shared} {Q : VK} {us : List Value} {vs : List V}
    (F : FnG X.prog X.w X.K X.mg X.base CX k f fd ps sp) (hG : X.A.guards = some []) (hr : Room k X.A)
    (hb : Binds X.K fd ps ds) (hd : Vals dvs ds) (hx : Passes CX X E) (J : Inv X pins σ H s) (rel : Vals vs us)
    (prem : sp (vs ++ dvs) H Q E) :
    wpAny (model X.prog X.w) X.A (call (.ref f) us) (EP X pins σ Q) X.xe s := by
  have rel2 : Vals (vs ++ dvs) (us ++ ds) := rel.append hd
  have long : (us ++ ds).length = ps.length := rel2.length ▸ F.arity _ _ _ _ prem
  apply wpAny_call
  apply codeAny_mono (F.go X.A X.stack s H ⟨us, []⟩ (us ++ ds) (vs ++ dvs) Q E hG hr J.env0 (hb s us J.kIn long)
    rel2 prem)
  intro r s' hq
  match r, hq with
  | .error _, hq => exact hx pins σ H s _ s' J hq
  | .ok (.ret _), hq => exact J.after hq
  | .ok .next, hq => exact hq.elim
  | .ok .brk, hq => exact hq.elim
  | .ok .cont, hq => exact hq.elim
/-- f(e, ..) of a def that keeps its promise where no repr is under way -/
theorem pe_callG (F : FnG X.prog X.w X.K X.mg X.base CX k f fd ps sp) (hG : X.A.guards = some []) (hr : Room k X.A)
    (hg : Gl X x) (hm : X.mg x = some (.ref f)) (hk : PySem.W.keepIn X.K (.ref f) = true) (hb : Binds X.K fd ps ds)
    (hd : Vals dvs ds) (hx : Passes CX X E) (ha : PA X (e :: es) t)
    (hdb : (x == ("__debug__" : Str)) = false := by decide)
    (he : starEach (e :: es) X.env = (false, eval e X.env) :: starEach es X.env := by rfl)
    (hpl : (backTo pos (starEach es X.env)).any (·.1) = false := by rfl) :
    PE X (.Call (.Name x p) (e :: es) [] pos) (tCall sp dvs E t) := by
  constructor
  intro pins s σ H Q J prem
  have arg := ha.run pos pins s σ H _ J prem
  apply wpAny_Call_Name_kw
  apply ld_glob J hg hm (hd := hdb)
  apply PySem.W.callWith_K (h₀ := X.base) J.ok.mod.kin hk (he := he) (hplain := hpl)
  apply thn arg
  rintro us s1 ⟨vs, H1, J1, rel, q⟩
  exact ⟨J1.kIn, enterG F hG hr hb hd hx J1 rel q⟩
end
end Gd
namespace Gd
open PySem PySem.Spec PyProof.Rows L2
section
variable {P : Program} {w : World} {K : PySem.W.Frag} {mg mb : Str → Option Value} {CX : CXT} {k : Nat} {fa a : Addr}
  {fd : FuncData} {x : Str} {sp : Sp} {s₁ : Shared} {vs : List Value} {ns : List Int}
/-- the law's call from one abstract heap that tracks at most the script -/
theorem callOne (kin : K.In s₁.heap) (gl : s₁.heap.Ns mainGlobals mg) (bl : s₁.heap.Ns builtinsNs mb)
    (bb : ∀ x : Str, x ≠ "__name__" → mb x = bootBuiltins x) (nl : s₁.heap.NoLimit) (gn : s₁.gens = #[])
    (at_ : s₁.heap.get? a = some { cls := .type "list", data := .seq vs.toArray }) (room : Room k callerA)
    (F : ∀ base : Heap, K.In base → base.Ns mainGlobals mg → FnG P w K mg base CX k fa fd [x] sp)
    (bind : ∀ (s : Shared) (u : Value), BindsTo s fd ⟨[u], []⟩ [(x, u)])
    (H : Hp) (only : Only H) (prem : sp [.ref a] H (fun v _ => v = .bl true) fun _ _ _ => False)
    (noX : ∀ e s', CX [] H s₁ (fun _ _ _ => False) e s' → False)
    (hok : HOk P w H s₁.heap) (here : ∀ b, H b ≠ none → b = a) (out : H a ≠ none → K.lookup a = none) :
    codeAny (model P w) callerA (.call (.ref fa) ⟨[.ref a], []⟩)
      (fun r s' => r = .ok (.ret (.bool true)) ∧ OldK s₁.heap s'.heap ∧ s'.os = s₁.os ∧ AllBare s'.gens) s₁ := by
  have free : ∀ {b : Addr} {o : Obj} {es : Array DictEntry} {ep : Nat},
      s₁.heap.get? b = some o → o.data = .dict es ep → H b = none := by
    intro b o es ep z dd
    refine Classical.byContradiction fun q => ?_
    have hb := here b q
    rw [hb, at_] at z
    injection z with z
    rw [← z] at dd
    injection dd
  have nsOf : ∀ {b : Addr} {m : Str → Option Value}, s₁.heap.Ns b m → (hidT s₁.heap H).Ns b m := by
    rintro b m ⟨o, es, ep, z, dd, r⟩
    exact ⟨o, es, ep, hidT_get z (free z dd), dd, r⟩
  have kinB : K.In (hidT s₁.heap H) := by
    intro b o z
    refine hidT_get (kin b o z) (Classical.byContradiction fun q => ?_)
    have hb := here b q
    rw [hb] at z q
    rw [out q] at z
    injection z
  have modB : Mod K mg (hidT s₁.heap H) := by
    obtain ⟨mc, l1, l2⟩ := nl
    exact ⟨kinB, nsOf gl, ⟨mb, nsOf bl, bb⟩, ⟨mc, nsOf l1, l2⟩⟩
  have env : Env0 P w K mg (hidT s₁.heap H) callerA [] s₁ H := by
    refine ⟨rfl, modB, fun b o z => of_hidT z, Nat.le_of_eq (hidT_size _ _), trivial, ?_, hok, .of_eq gn⟩
    intro b hb
    exact absurd (show b ∈ ([] : List Addr) from hb) List.not_mem_nil
  have ran := (F _ kinB (nsOf gl)).go callerA [] s₁ H ⟨[.ref a], []⟩ [.ref a] [.ref a] _ _ rfl room env
    (bind s₁ (.ref a)) (.cons rfl .nil) prem
  apply codeAny_mono ran
  intro r s' q
  match r, q with
  | .error _, q => exact (noX _ _ q).elim
  | .ok .next, q => exact q.elim
  | .ok .brk, q => exact q.elim
  | .ok .cont, q => exact q.elim
  | .ok (.ret u), q =>
    obtain ⟨v, H', os, bare, un, hok', rv, ev⟩ := q
    have ev' : v = .bl true := ev
    subst ev'
    have hu : u = Value.bool true := rv
    subst hu
    refine ⟨rfl, ?_, os, bare⟩
    apply OldK.of_keep
    intro b o z
    have nob : b ∉ ([] : List Addr) := List.not_mem_nil
    cases q : H b with
    | none => exact un.keep b o z q nob nob
    | some u =>
      cases only b with
      | inl z0 =>
        rw [q] at z0
        injection z0
      | inr z0 =>
        obtain ⟨ob, xs, z1⟩ := z0
        have y1 := (hok b _ z1).1
        have y2 := (hok' b _ (un.frzs b ob _ z1)).1
        rw [z] at y1
        injection y1 with y1
        rw [y1]
        exact y2
theorem callG (kin : K.In s₁.heap) (gl : s₁.heap.Ns mainGlobals mg) (bl : s₁.heap.Ns builtinsNs mb)
    (bb : ∀ x : Str, x ≠ "__name__" → mb x = bootBuiltins x) (nl : s₁.heap.NoLimit) (gn : s₁.gens = #[])
    (at_ : s₁.heap.get? a = some { cls := .type "list", data := .seq vs.toArray }) (hin : IntsAre vs ns)
    (short : ns.length ≤ sizeLine) (room : Room k callerA)
    (F : ∀ base : Heap, K.In base → base.Ns mainGlobals mg → FnG P w K mg base CX k fa fd [x] sp)
    (bind : ∀ (s : Shared) (u : Value), BindsTo s fd ⟨[u], []⟩ [(x, u)])
    (prem : ∀ H : Hp, Only H → SqL K H a (ns.map V.int) → sp [.ref a] H (fun v _ => v = .bl true) fun _ _ _ => False)
    (noX : ∀ H e s', CX [] H s₁ (fun _ _ _ => False) e s' → False) :
    codeAny (model P w) callerA (.call (.ref fa) ⟨[.ref a], []⟩)
      (fun r s' => r = .ok (.ret (.bool true)) ∧ OldK s₁.heap s'.heap ∧ s'.os = s₁.os ∧ AllBare s'.gens) s₁ := by
  have rv := vals_ints hin
  have lens := hin.length
  cases hk : K.lookup a with
  | some o =>
    have z := kin a o hk
    rw [at_] at z
    injection z with z
    subst z
    have only : Only (fun _ => none) := fun _ => .inl rfl
    refine callOne kin gl bl bb nl gn at_ room F bind (fun _ => none) only (prem _ only ?_) (noX _)
      (fun b u z => ?_) (fun b z => absurd rfl z) fun z => absurd rfl z
    · refine .inr ⟨_, vs.toArray, _, hk, rfl, rfl, rfl, ?_, ?_⟩
      · rw [List.size_toArray, lens]
        exact short
      · simpa using rv
    · have z' : (none : Option HO) = some u := z
      injection z'
  | none =>
    let T : HO := .frz { cls := .type "list", data := .seq vs.toArray } (.lst (ns.map V.int))
    have only : Only (fun b => if b = a then some T else none) := fun b => by
      by_cases hb : b = a
      · exact .inr ⟨_, _, if_pos hb⟩
      · exact .inl (if_neg hb)
    refine callOne kin gl bl bb nl gn at_ room F bind (fun b => if b = a then some T else none) only
      (prem _ only (.inl (.inr ⟨{ cls := .type "list", data := .seq vs.toArray }, if_pos rfl⟩))) (noX _)
      (fun b u z => ?_) (fun b z => ?_) fun _ => hk
    · by_cases hb : b = a
      · have z' : some T = some u := (if_pos hb).symm.trans z
        injection z' with z'
        subst z'
        subst hb
        refine ⟨at_, ?_, vs, _, rv, at_⟩
        rw [List.length_map]
        exact short
      · have z' : (none : Option HO) = some u := (if_neg hb).symm.trans z
        injection z'
    · refine Classical.byContradiction fun hb => z (if_neg hb)
end
/-- the goal that k_head leaves, from the law's promise under FnG -/
theorem walkG {l : PySem.W.OpenLaw} {n k : Nat} {q : Program} {loose : List Str} {XP : (Str → Option Value) → Heap → Prop}
    {YP : World → Heap → Prop} {d : DefRec} {K : Params → PySem.W.Frag} {CX : World → CXT} {sp : World → Sp} {x : Str}
    (most : l.most = some n) (line : n ≤ sizeLine) (nod : d.params.defaults = []) (room : Room k callerA)
    (kin : ∀ (w : World) (h : Heap), YP w h → (K w.params).In h)
    (F : ∀ (w : World) (mg : Str → Option Value) (fa : Addr) (h : Heap),
      (K w.params).In h → h.Ns mainGlobals mg → mg d.name = some (.ref fa) →
      ∃ fd : FuncData, (∀ (s : Shared) (u : Value), BindsTo s fd ⟨[u], []⟩ [(x, u)]) ∧
        ∀ base : Heap, (K w.params).In base → base.Ns mainGlobals mg →
          FnG l.prog w (K w.params) mg base (CX w) k fa fd [x] (sp w))
    (prem : ∀ (w : World) (H : Hp) (a : Addr) (ns : List Int), ns.length ≤ n → Only H →
      SqL (K w.params) H a (ns.map V.int) → sp w [.ref a] H (fun v _ => v = .bl true) fun _ _ _ => False)
    (noX : ∀ (w : World) (H : Hp) (s : Shared) (e : Value) (s' : Shared),
      CX w [] H s (fun _ _ _ => False) e s' → False) :
    PySem.W.WalkO q loose XP YP l.row.toRowW d [] (fun f vs => PySem.call f vs) := by
  apply Att.attach_call most nod
  intro w s₀ s₁ mg mb fa o pm cd doc a vs ns G Y ho hd hcd hmg hobj hints hlen hg
  have kx := kin w _ Y
  obtain ⟨fd, hb, hF⟩ := F w mg fa _ kx G.T.g hmg
  refine callG kx G.T.g G.T.b G.T.builtins G.T.nolimit hg hobj hints (Nat.le_trans hlen line) room hF hb ?_ ?_
  · intro H hO hS
    exact prem w H a ns hlen hO hS
  · intro H e s'
    exact noX w H s₁ e s'
end Gd
namespace Gd
open PySem PySem.Spec PyProof.Rows L2
/-- plain data, or an empty dict -/
inductive D1 (K : PySem.W.Frag) (H : Hp) : V → PyData → Prop
  | dp {v : V} {d : PyData} (h : Dp K H v d) : D1 K H v d
  | emp {a : Addr} (h : H a = some (.dK [])) : D1 K H (.ref a) (.dict [])
inductive D1s (K : PySem.W.Frag) (H : Hp) : List V → List PyData → Prop
  | nil : D1s K H [] []
  | cons {v : V} {vs : List V} {d : PyData} {ds : List PyData} : D1 K H v d → D1s K H vs ds → D1s K H (v :: vs) (d :: ds)
/-- such, or a list or a tuple of such -/
inductive D2 (K : PySem.W.Frag) (H : Hp) : V → PyData → Prop
  | d1 {v : V} {d : PyData} (h : D1 K H v d) : D2 K H v d
  | lst {a : Addr} {xs : List V} {ds : List PyData} : SqL K H a xs → D1s K H xs ds → D2 K H (.ref a) (.list ds)
  | tup {a : Addr} {xs : List V} {ds : List PyData} : SqT K H a xs → D1s K H xs ds → D2 K H (.ref a) (.tuple ds)

mutual
theorem noDict {K : PySem.W.Frag} {H : Hp} : ∀ {v : V} {d : PyData}, Dp K H v d → d.hasDict = false
  | _, _, .non => by simp only [PyData.hasDict]
  | _, _, .bl _ => by simp only [PyData.hasDict]
  | _, _, .int _ => by simp only [PyData.hasDict]
  | _, _, .str _ => by simp only [PyData.hasDict]
  | _, _, .lst _ ha => by
    simp only [PyData.hasDict]
    exact noDicts ha
  | _, _, .tup _ ha => by
    simp only [PyData.hasDict]
    exact noDicts ha
theorem noDicts {K : PySem.W.Frag} {H : Hp} : ∀ {vs : List V} {ds : List PyData}, DpAll K H vs ds → PyData.hasDictAll ds = false
  | _, _, .nil => by simp only [PyData.hasDictAll]
  | _, _, .cons h1 h2 => by simp only [PyData.hasDictAll, noDict h1, noDicts h2, Bool.or_self]
end

section
variable {X : Cx} {pins : List (Addr × Obj)} {σ : L2.St} {H : Hp} {s : Shared}
theorem D1.rd (I : Inv X pins σ H s) {v : V} {d : PyData} {u : Value} (h : D1 X.K H v d) (r : RelV v u) :
    ∃ as, Reads s.heap u d as ∧ (d.hasDict = true → sysModules ∉ as) := by
  cases h with
  | dp h =>
    obtain ⟨as, q⟩ := Dp.reads I d v u h r
    exact ⟨as, q, PyData.noDict_hsm (noDict h)⟩
  | @emp a h =>
    cases (show u = Value.ref a from r)
    obtain ⟨_, hs, vs, kv, o, es, ep, q⟩ := (show ObjOk X.prog X.w H s.heap a (.dK []) from I.hok a _ h)
    cases kv
    obtain ⟨e1, e2, e3, e4⟩ := q
    have e5 : es.toList = [] := by
      have e6 := e4.2.1
      generalize es.toList = l at e6 ⊢
      cases e6
      rfl
    refine ⟨_, Reads.dict (kvs := []) (as := []) (bs := []) e1 e2.1 e3 ?_ ?_, fun _ => ?_⟩
    · rw [e5]
      exact .nil
    · rw [e5]
      exact .nil
    · intro z
      have z' : sysModules = a := by simpa using z
      rw [← z'] at hs
      simp at hs
theorem D1s.rd (I : Inv X pins σ H s) : ∀ {vs : List V} {ds : List PyData} {us : List Value}, D1s X.K H vs ds → Vals vs us →
    ∃ as, ReadsAll s.heap us ds as
  | _, _, _, .nil, .nil => ⟨_, .nil⟩
  | _, _, _, .cons h1 h2, .cons r1 r2 => by
    obtain ⟨as, q1, _⟩ := h1.rd I r1
    obtain ⟨bs, q2⟩ := D1s.rd I h2 r2
    exact ⟨_, .cons q1 q2⟩
theorem D1.one (I : Inv X pins σ H s) {v : V} {d : PyData} {u : Value} (h : D1 X.K H v d) (r : RelV v u)
    (hs : d.showable = true) (hz : d.shown.length ≤ sizeLine) :
    ∃ bs, ReadAtMost s.heap d.depth bs ∧ ReprK X.prog X.w bs s.heap d.depth u d.shown := by
  obtain ⟨as, q, hm⟩ := h.rd I r
  exact ReprK.of_reads q hs hm hz
theorem D1s.each (I : Inv X pins σ H s) {n : Nat} : ∀ {vs : List V} {ds : List PyData} {us : List Value}, D1s X.K H vs ds → Vals vs us →
    PyData.showableAll ds = true → (∀ t ∈ PyData.shownAll ds, t.length ≤ sizeLine) → PyData.depthAll ds ≤ n →
    ∃ bs, ReadAtMost s.heap n bs ∧ ReprAllK X.prog X.w bs s.heap n us (PyData.shownAll ds)
  | _, _, _, .nil, .nil, _, _, _ => ⟨[], (fun _ z => nomatch z), by simp only [PyData.shownAll]; exact .nil⟩
  | _, _, _, .cons (d := d) (ds := ds) h1 h2, .cons r1 r2, hs, hz, hn => by
    have hs' : d.showable = true ∧ PyData.showableAll ds = true := by simpa [PyData.showableAll] using hs
    simp only [PyData.depthAll] at hn
    simp only [PyData.shownAll] at hz ⊢
    obtain ⟨b1, m1, k1⟩ := h1.one I r1 hs'.1 (hz _ List.mem_cons_self)
    obtain ⟨b2, m2, k2⟩ := D1s.each I h2 r2 hs'.2 (fun t ht => hz t (List.mem_cons_of_mem _ ht)) (by omega : PyData.depthAll ds ≤ n)
    refine ⟨b1 ++ b2, (m1.mono (by omega)).append m2, .cons ((k1.more fun b hb => List.mem_append_left _ hb).level_le (by omega)) (k2.more_le (fun b hb => List.mem_append_right _ hb) (Nat.le_refl _))⟩
end

/-- repr of such data where no repr is under way -/
def rRepr (K : PySem.W.Frag) : List V → Hp → VK → Prop := fun xs H Q => ∃ v d, xs = [v] ∧ D2 K H v d ∧ d.showable = true ∧
  d.shown.length ≤ sizeLine ∧ d.depth ≤ 60 ∧ Q (.str d.shown) H
section
variable {X : Cx}
theorem call_repr (hG : X.A.guards = some []) (hu : X.A.units + 64 < cLine) : CallR X (.builtin "repr") (rRepr X.K) := by
  intro pins s σ H xs us Q I rel h
  obtain ⟨v, d, rfl, hd, hs, hz, hdep, q⟩ := h
  obtain ⟨u, rfl, r⟩ := vals1 rel
  cases hd with
  | d1 h1 =>
    cases h1 with
    | dp hp =>
      cases hp with
      | non =>
        cases (show u = Value.none from r)
        simp only [PyData.shown] at q
        exact PySem.P.repr_of_none ⟨.str _, H, I.tok _, ⟨_, rfl⟩, q⟩
      | bl b =>
        cases (show u = Value.bool b from r)
        simp only [PyData.shown] at q
        exact PySem.P.repr_of_bool ⟨.str _, H, I.tok _, ⟨_, rfl⟩, q⟩
      | int i =>
        obtain ⟨t, rfl⟩ := (show ∃ t, u = Value.int i t from r)
        simp only [PyData.shown] at q
        exact PySem.P.repr_of_int (by simpa [PyData.showable] using hs) ⟨.str _, H, I.tok _, ⟨_, rfl⟩, q⟩
      | str x =>
        obtain ⟨t, rfl⟩ := (show ∃ t, u = Value.str x t from r)
        simp only [PyData.shown] at q hz
        exact PySem.P.repr_of_str ⟨.str _, H, I.tok _, ⟨_, rfl⟩, q⟩ hz
      | @lst a ys ds hl ha =>
        cases (show u = Value.ref a from r)
        obtain ⟨as, rd, hm⟩ := (D1.dp (.lst hl ha) : D1 X.K H (.ref a) (.list ds)).rd I rfl
        exact repr_of_reads' rd hs hm hG (by omega) (fun _ _ z => z) (fun h' u tk hk => ⟨.str _, H, I.kept hk, ⟨_, rfl⟩, q⟩) hz
      | @tup a ys ds hl ha =>
        cases (show u = Value.ref a from r)
        obtain ⟨as, rd, hm⟩ := (D1.dp (.tup hl ha) : D1 X.K H (.ref a) (.tuple ds)).rd I rfl
        exact repr_of_reads' rd hs hm hG (by omega) (fun _ _ z => z) (fun h' u tk hk => ⟨.str _, H, I.kept hk, ⟨_, rfl⟩, q⟩) hz
    | @emp a ha =>
      cases (show u = Value.ref a from r)
      obtain ⟨as, rd, hm⟩ := (D1.emp ha : D1 X.K H (.ref a) (.dict [])).rd I rfl
      exact repr_of_reads' rd hs hm hG (by omega) (fun _ _ z => z) (fun h' u tk hk => ⟨.str _, H, I.kept hk, ⟨_, rfl⟩, q⟩) hz
  | @lst a ys ds hl ha =>
    cases (show u = Value.ref a from r)
    obtain ⟨its, rv, ⟨o, n, ho, hc, _, ho2⟩, _⟩ := I.list hl
    obtain ⟨as, rda⟩ := ha.rd I rv
    have hz' : (listText (PyData.shownAll ds)).length ≤ sizeLine := by simpa only [PyData.shown] using hz
    simp only [PyData.depth] at hdep
    obtain ⟨bs, hb, hk⟩ := ha.each I rv (by simpa [PyData.showable] using hs) (fun t ht => Nat.le_trans (listText_mem_le ht) hz') (Nat.le_refl _)
    have hna : a ∉ bs := not_mem_of_deeper (.list ho hc ho2 rda) (by simp only [PyData.depth]; omega) hb
    simp only [PyData.shown] at q
    have ty : s.TypeIs (.ref a) "list" := ⟨o, ho, hc⟩
    have fin : ∀ h' u tk, (∀ b o, s.heap.get? b = some o → h'.get? b = some o) →
        EP X pins σ Q (.str (listText (PyData.shownAll ds)) u) { s with heap := h', toks := tk } :=
      fun h' u tk hk => ⟨.str _, H, I.kept hk, ⟨_, rfl⟩, q⟩
    refine call_repr_slot (by omega) ty PySem.F.slot_list_repr.toG ?_
    cases its with
    | nil =>
      cases rda
      simp only [PyData.shownAll, listText_nil] at fin
      exact call_list_repr_empty ty ho ho2 ⟨_, _, rfl, fin s.heap _ _ fun _ _ e => e⟩
    | cons x l =>
      exact call_list_reprK ho hc ho2 hna (by simpa using hk.length_eq) (fun i y e => hk.item i y (by simpa using e)) hG
        (fun b _ => Clear.nil b) (by show X.A.units + 1 + (_ + 1) < cLine; omega) (fun _ _ z => z) (fun h' u tk hk => ⟨_, _, rfl, fin h' u tk hk⟩) hz'
  | @tup a ys ds hl ha =>
    cases (show u = Value.ref a from r)
    obtain ⟨its, rv, ⟨o, ho, hc, n, ho2⟩, _⟩ := I.tuple hl
    obtain ⟨as, rda⟩ := ha.rd I rv
    have hz' : (tupleText (PyData.shownAll ds)).length ≤ sizeLine := by simpa only [PyData.shown] using hz
    simp only [PyData.depth] at hdep
    obtain ⟨bs, hb, hk⟩ := ha.each I rv (by simpa [PyData.showable] using hs) (fun t ht => Nat.le_trans (tupleText_mem_le ht) hz') (Nat.le_refl _)
    have hna : a ∉ bs := not_mem_of_deeper (.tuple ho hc ho2 rda) (by simp only [PyData.depth]; omega) hb
    simp only [PyData.shown] at q
    have ty : s.TypeIs (.ref a) "tuple" := ⟨o, ho, hc⟩
    refine call_repr_slot (by omega) ty PySem.F.slot_tuple_repr ?_
    exact call_tuple_reprK ho hc ho2 hna (by simpa using hk) hG (fun b _ => Clear.nil b) (by show X.A.units + 1 + (_ + 1) < cLine; omega) (fun _ _ z => z)
      (fun h' u tk hk => ⟨_, _, rfl, ⟨.str _, H, I.kept hk, ⟨_, rfl⟩, q⟩⟩) hz'
end
end Gd
namespace Gd
open PySem PySem.Spec PyProof.Rows L2
/-- a def of the top, with its name -/
structure DefAt (K : PySem.W.Frag) (mg : Str → Option Value) (x : Str) (st : Stmt) (ps : List Str) : Prop where
  ex : ∃ (f : Addr) (fd : FuncData), Fun K x x st f fd ∧ mg x = some (.ref f) ∧ Binds K fd ps []
/-- a def by its name, its promise kept where no repr is under way -/
structure CalG (P : Program) (w : World) (K : PySem.W.Frag) (mg : Str → Option Value) (base : Heap) (k : Nat) (x : Str) (sp : Sp) : Prop where
  ex : ∃ (f : Addr) (fd : FuncData) (ps : List Str), FnG P w K mg base CX0 k f fd ps sp ∧ mg x = some (.ref f) ∧
    PySem.W.keepIn K (.ref f) = true ∧ Binds K fd ps []
section
variable {P : Program} {w : World} {K : PySem.W.Frag} {mg : Str → Option Value} {base : Heap}
theorem DefAt.cal {x : Str} {st : Stmt} {N ps : List Str} {k : Nat} {sp : Sp} (D : DefAt K mg x st ps) (S : FnScope N ps (defScope st))
    (ar : ∀ vs H Q E, sp vs H Q E → vs.length = ps.length)
    (bd : ∀ (f : Addr) (cdv : Value) (A : Around) (outer : List Env) (s : Shared) (H : Hp) (vs : List V) (Q : VK) (E : XK),
      A.guards = some [] → Room k (A.deeper (envOfC x (defScope st) s.heap.objs.size f cdv)) → sp vs H Q E →
      ∃ t, PSs (cxOf CX0 P w K mg base N x (defScope st) f cdv A outer s H E).nox (defBody st) t ∧
        t { nx := fun _ H' => Q .non H', rt := Q } (start N vs) H) : CalG P w K mg base (k + 1) x sp := by
  obtain ⟨f, fd, F, m, b⟩ := D.ex
  exact ⟨f, fd, ps, okG F S ar (bd f), m, F.kp, b⟩
theorem DefAt.mk' {X : K.In base} {x : Str} {st : Stmt} {ps : List Str} {f : Addr} {oc : Value} {od an : Option Addr} {osl : Array (Option Value)} {kV doc pm cdv ct : Value}
    (m : mg x = some (.ref f))
    (l : K.lookup f = some ⟨oc, od, .func (PySem.W.fnOf x x (defArgs st) (defBody st) (defScope st) .none kV doc pm an cdv ct), osl⟩)
    (c : PySem.W.codeIn K cdv x = true) (k : PySem.W.keepIn K (.ref f) = true)
    (b : ∀ (kV doc pm : Value) (an : Option Addr) (cdv ct : Value) (us : List Value), us.length = ps.length →
      bindArgs (PySem.W.fnOf x x (defArgs st) (defBody st) (defScope st) .none kV doc pm an cdv ct) ⟨us, []⟩ = pure (ps.zip us)) :
    DefAt K mg x st ps := by
  have F := fun_mk (st := st) l c k
  exact ⟨f, _, F, m, F.binds b⟩
end
section
variable {X : Cx} {k : Nat} {sp : Sp} {x : Str} {p pos : Pos} {e : Expr} {es : List Expr} {t : TA}
theorem pe_g (c : CalG X.prog X.w X.K X.mg X.base k x sp) (hG : X.A.guards = some []) (hr : Room k X.A) (hg : Gl X x)
    (ha : PA X (e :: es) t) (hdb : (x == ("__debug__" : Str)) = false := by decide)
    (he : starEach (e :: es) X.env = (false, eval e X.env) :: starEach es X.env := by rfl)
    (hpl : (backTo pos (starEach es X.env)).any (·.1) = false := by rfl) :
    PE X (.Call (.Name x p) (e :: es) [] pos) (tCall sp [] E0 t) := by
  obtain ⟨f, fd, ps, F, m, kp, b⟩ := c.ex
  exact pe_callG F hG hr hg m kp b .nil pass0 ha hdb he hpl
/-- a module's constant, a whole number -/
def GInt (mg : Str → Option Value) (x : Str) (n : Int) : Prop := ∃ t, mg x = some (.int n t)
theorem pe_gi {n : Int} (hg : Gl X x) (h : GInt X.mg x n) (hd : (x == ("__debug__" : Str)) = false := by decide) : PE X (.Name x pos) (tC (.int n)) := by
  obtain ⟨t, h⟩ := h
  exact pe_glob hg h ⟨t, rfl⟩ hd
/-- a module's constant, a text -/
def GStr (mg : Str → Option Value) (x : Str) (z : Str) : Prop := ∃ t, mg x = some (.str z t)
theorem pe_gs {z : Str} (hg : Gl X x) (h : GStr X.mg x z) (hd : (x == ("__debug__" : Str)) = false := by decide) : PE X (.Name x pos) (tC (.str z)) := by
  obtain ⟨t, h⟩ := h
  exact pe_glob hg h ⟨t, rfl⟩ hd
theorem hu64 {A : Around} (hr : Room k A) : A.units + 64 < cLine := by
  have := hr.un
  omega
/-- x is True, x is False, for any x -/
def isB (x : V) (b : Bool) : Bool := match x with
  | .bl a => a == b
  | _ => false
theorem op_isB : OpR X (compareOp .Is) (fun x y H Q => ∃ b, y = .bl b ∧ Q (.bl (isB x b)) H) := by
  intro pins s σ H x y v u Q I rx ry h
  obtain ⟨b, rfl, q⟩ := h
  cases (show u = Value.bool b from ry)
  cases x with
  | non =>
    cases (show v = Value.none from rx)
    exact wpAny_is_other rfl (fun z => nomatch z) ⟨.bl false, H, I, rfl, q⟩
  | bl a =>
    cases (show v = Value.bool a from rx)
    by_cases e : a = b
    · subst e
      refine wpAny_is_self rfl ⟨.bl true, H, I, rfl, ?_⟩
      simpa [isB] using q
    · refine wpAny_is_other rfl (fun z => e (Value.bool.inj z)) ⟨.bl false, H, I, rfl, ?_⟩
      have e2 : isB (.bl a) b = false := beq_eq_false_iff_ne.mpr e
      rw [e2] at q
      exact q
  | int i =>
    obtain ⟨t, rfl⟩ := (show ∃ t, v = Value.int i t from rx)
    exact wpAny_is_other rfl (fun z => nomatch z) ⟨.bl false, H, I, rfl, q⟩
  | str i =>
    obtain ⟨t, rfl⟩ := (show ∃ t, v = Value.str i t from rx)
    exact wpAny_is_other rfl (fun z => nomatch z) ⟨.bl false, H, I, rfl, q⟩
  | byt i =>
    obtain ⟨t, rfl⟩ := (show ∃ t, v = Value.bytes i t from rx)
    exact wpAny_is_other rfl (fun z => nomatch z) ⟨.bl false, H, I, rfl, q⟩
  | flt i =>
    obtain ⟨t, rfl⟩ := (show ∃ t, v = Value.float i t from rx)
    exact wpAny_is_other rfl (fun z => nomatch z) ⟨.bl false, H, I, rfl, q⟩
  | ref i =>
    cases (show v = Value.ref i from rx)
    exact wpAny_is_other rfl (fun z => nomatch z) ⟨.bl false, H, I, rfl, q⟩
  | ty i =>
    cases (show v = Value.type i from rx)
    exact wpAny_is_other rfl (fun z => nomatch z) ⟨.bl false, H, I, rfl, q⟩
theorem op_isntB : OpR X (compareOp .IsNot) (fun x y H Q => ∃ b, y = .bl b ∧ Q (.bl (!isB x b)) H) := by
  intro pins s σ H x y v u Q I rx ry h
  obtain ⟨b, rfl, q⟩ := h
  cases (show u = Value.bool b from ry)
  cases x with
  | non =>
    cases (show v = Value.none from rx)
    exact wpAny_isNot_other rfl (fun z => nomatch z) ⟨.bl true, H, I, rfl, q⟩
  | bl a =>
    cases (show v = Value.bool a from rx)
    by_cases e : a = b
    · subst e
      refine wpAny_isNot_self rfl ⟨.bl false, H, I, rfl, ?_⟩
      simpa [isB] using q
    · refine wpAny_isNot_other rfl (fun z => e (Value.bool.inj z)) ⟨.bl true, H, I, rfl, ?_⟩
      have e2 : isB (.bl a) b = false := beq_eq_false_iff_ne.mpr e
      rw [e2] at q
      exact q
  | int i =>
    obtain ⟨t, rfl⟩ := (show ∃ t, v = Value.int i t from rx)
    exact wpAny_isNot_other rfl (fun z => nomatch z) ⟨.bl true, H, I, rfl, q⟩
  | str i =>
    obtain ⟨t, rfl⟩ := (show ∃ t, v = Value.str i t from rx)
    exact wpAny_isNot_other rfl (fun z => nomatch z) ⟨.bl true, H, I, rfl, q⟩
  | byt i =>
    obtain ⟨t, rfl⟩ := (show ∃ t, v = Value.bytes i t from rx)
    exact wpAny_isNot_other rfl (fun z => nomatch z) ⟨.bl true, H, I, rfl, q⟩
  | flt i =>
    obtain ⟨t, rfl⟩ := (show ∃ t, v = Value.float i t from rx)
    exact wpAny_isNot_other rfl (fun z => nomatch z) ⟨.bl true, H, I, rfl, q⟩
  | ref i =>
    cases (show v = Value.ref i from rx)
    exact wpAny_isNot_other rfl (fun z => nomatch z) ⟨.bl true, H, I, rfl, q⟩
  | ty i =>
    cases (show v = Value.type i from rx)
    exact wpAny_isNot_other rfl (fun z => nomatch z) ⟨.bl true, H, I, rfl, q⟩
end
/-! names of the built-ins -/
theorem boot_len_ : bootBuiltins "len" = some (.builtin "len") := by decide +kernel
theorem boot_max_ : bootBuiltins "max" = some (.builtin "max") := by decide +kernel
theorem boot_min_ : bootBuiltins "min" = some (.builtin "min") := by decide +kernel
theorem boot_abs_ : bootBuiltins "abs" = some (.builtin "abs") := by decide +kernel
theorem boot_all_ : bootBuiltins "all" = some (.builtin "all") := by decide +kernel
theorem boot_repr_ : bootBuiltins "repr" = some (.builtin "repr") := by decide +kernel
theorem boot_isinstance_ : bootBuiltins "isinstance" = some (.builtin "isinstance") := by decide +kernel
theorem boot_int_ : bootBuiltins "int" = some (.type "int") := by decide +kernel
theorem boot_bool_ : bootBuiltins "bool" = some (.type "bool") := by decide +kernel
theorem boot_str_ : bootBuiltins "str" = some (.type "str") := by decide +kernel
theorem boot_list_ : bootBuiltins "list" = some (.type "list") := by decide +kernel
theorem boot_tuple_ : bootBuiltins "tuple" = some (.type "tuple") := by decide +kernel
theorem boot_dict_ : bootBuiltins "dict" = some (.type "dict") := by decide +kernel

/-! ### the box of a cell: what is drawn of it is any number below the bound -/
def BoxAt (H : Hp) (b : Addr) : Prop := ∃ x y z : Int, 0 ≤ x ∧ 0 ≤ y ∧ y < 2147483629 ∧ H b = some (.lst [.int x, .int y, .int z])
/-- all but the box is kept -/
def Kp (b : Addr) (H H' : Hp) : Prop := ∀ c o, c ≠ b → H c = some o → H' c = some o
theorem Kp.refl {b : Addr} {H : Hp} : Kp b H H := fun _ _ _ z => z
theorem Kp.trans {b : Addr} {H H1 H2 : Hp} (h : Kp b H H1) (k : Kp b H1 H2) : Kp b H H2 := fun c o n z => k c o n (h c o n z)
theorem Kp.upd {b p : Addr} {H H' : Hp} {o : HO} (h : Kp b H H') (n : H' p = none) : Kp b H (upd H' p o) := fun c u hc z => by
  have z2 := h c u hc z
  rw [upd_ne (ne_of_none z2 n)]
  exact z2
theorem BoxAt.upd {b p : Addr} {H : Hp} {o : HO} (h : BoxAt H b) (n : H p = none) : BoxAt (L2.upd H p o) b := by
  obtain ⟨x, y, z, h1, h2, h3, h4⟩ := h
  refine ⟨x, y, z, h1, h2, h3, ?_⟩
  rw [upd_ne (ne_of_none h4 n)]
  exact h4
theorem BoxAt.ne {b p : Addr} {H : Hp} (h : BoxAt H b) (n : H p = none) : p ≠ b := by
  obtain ⟨x, y, z, _, _, _, h4⟩ := h
  exact (ne_of_none h4 n).symm
def spTake : Sp := fun vs H Q _ => ∃ (b : Addr) (m : Int), vs = [.ref b, .int m] ∧ BoxAt H b ∧ 0 < m ∧ m ≤ 1000000000 ∧
  ∀ (d : Int) (H' : Hp), 0 ≤ d → d < m → BoxAt H' b → (∀ c, c ≠ b → H' c = H c) → Q (.int d) H'
def spCell (K : PySem.W.Frag) : Sp := fun vs H Q _ => ∃ (a : Addr) (ns : List Int) (k : Int), vs = [.ref a, .int k] ∧ SqL K H a (ns.map V.int) ∧
  ns.length ≤ 63 ∧ 0 ≤ k ∧ ∀ n : Int, Q (.int n) H
def spBox : Sp := fun vs H Q _ => ∃ n : Int, vs = [.int n] ∧ ∀ (b : Addr) (H' : Hp), H b = none → BoxAt H' b → (∀ c, c ≠ b → H' c = H c) → Q (.ref b) H'
theorem kp_of {b : Addr} {H H' : Hp} (h : ∀ c, c ≠ b → H' c = H c) : Kp b H H' := fun c o n z => by
  rw [h c n]
  exact z
theorem atI_ints {ns : List Int} {k : Int} (h0 : 0 ≤ k) (h1 : k < ns.length) : ∃ n, atI (ns.map V.int) k = some (.int n) := by
  obtain ⟨j, rfl⟩ : ∃ j : Nat, k = j := ⟨k.toNat, by omega⟩
  have hj : j < ns.length := by omega
  refine ⟨ns[j], atI_nat ?_⟩
  rw [List.getElem?_map, List.getElem?_eq_getElem hj]
  rfl
end Gd
namespace Gd
open PySem PySem.Spec PyProof.Rows L2
/-! ### data by its shape -/
/-- all but what N names is kept -/
def Kq (N : Addr → Prop) (H H' : Hp) : Prop := ∀ c o, ¬ N c → H c = some o → H' c = some o
mutual
/-- the value shows the data d, laid in objects that N does not name -/
inductive Da (H : Hp) (N : Addr → Prop) : V → PyData → Prop
  | non : Da H N .non .none
  | bl (b : Bool) : Da H N (.bl b) (.bool b)
  | int (i : Int) : Da H N (.int i) (.int i)
  | str (x : Str) : Da H N (.str x) (.str x)
  | lst {a : Addr} {xs : List V} {ds : List PyData} : ¬ N a → H a = some (.lst xs) → Das H N xs ds → Da H N (.ref a) (.list ds)
  | tup {a : Addr} {xs : List V} {ds : List PyData} : ¬ N a → H a = some (.tup xs) → Das H N xs ds → Da H N (.ref a) (.tuple ds)
inductive Das (H : Hp) (N : Addr → Prop) : List V → List PyData → Prop
  | nil : Das H N [] []
  | cons {v : V} {vs : List V} {d : PyData} {ds : List PyData} : Da H N v d → Das H N vs ds → Das H N (v :: vs) (d :: ds)
end
mutual
theorem Da.kq {H H' : Hp} {N : Addr → Prop} (k : Kq N H H') : ∀ {v : V} {d : PyData}, Da H N v d → Da H' N v d
  | _, _, .non => .non
  | _, _, .bl b => .bl b
  | _, _, .int i => .int i
  | _, _, .str x => .str x
  | _, _, .lst n h s => .lst n (k _ _ n h) (Das.kq k s)
  | _, _, .tup n h s => .tup n (k _ _ n h) (Das.kq k s)
theorem Das.kq {H H' : Hp} {N : Addr → Prop} (k : Kq N H H') : ∀ {vs : List V} {ds : List PyData}, Das H N vs ds → Das H' N vs ds
  | _, _, .nil => .nil
  | _, _, .cons h s => .cons (Da.kq k h) (Das.kq k s)
end
mutual
theorem Da.wk {H : Hp} {N M : Addr → Prop} (k : ∀ a, M a → N a) : ∀ {v : V} {d : PyData}, Da H N v d → Da H M v d
  | _, _, .non => .non
  | _, _, .bl b => .bl b
  | _, _, .int i => .int i
  | _, _, .str x => .str x
  | _, _, .lst n h s => .lst (fun z => n (k _ z)) h (Das.wk k s)
  | _, _, .tup n h s => .tup (fun z => n (k _ z)) h (Das.wk k s)
theorem Das.wk {H : Hp} {N M : Addr → Prop} (k : ∀ a, M a → N a) : ∀ {vs : List V} {ds : List PyData}, Das H N vs ds → Das H M vs ds
  | _, _, .nil => .nil
  | _, _, .cons h s => .cons (Da.wk k h) (Das.wk k s)
end
mutual
theorem Da.dp {K : PySem.W.Frag} {H : Hp} {N : Addr → Prop} : ∀ {v : V} {d : PyData}, Da H N v d → Dp K H v d
  | _, _, .non => .non
  | _, _, .bl b => .bl b
  | _, _, .int i => .int i
  | _, _, .str x => .str x
  | _, _, .lst _ h s => .lst (SqL.of h) (Das.dp s)
  | _, _, .tup _ h s => .tup (SqT.of h) (Das.dp s)
theorem Das.dp {K : PySem.W.Frag} {H : Hp} {N : Addr → Prop} : ∀ {vs : List V} {ds : List PyData}, Das H N vs ds → DpAll K H vs ds
  | _, _, .nil => .nil
  | _, _, .cons h s => .cons (Da.dp h) (Das.dp s)
end
theorem Das.len {H : Hp} {N : Addr → Prop} : ∀ {vs : List V} {ds : List PyData}, Das H N vs ds → vs.length = ds.length
  | _, _, .nil => rfl
  | _, _, .cons _ s => by rw [List.length_cons, List.length_cons, s.len]
theorem Das.get {H : Hp} {N : Addr → Prop} : ∀ {vs : List V} {ds : List PyData} {i : Nat} {v : V}, Das H N vs ds → vs[i]? = some v → ∃ d, ds[i]? = some d ∧ Da H N v d
  | _, _, 0, _, .cons h _, e => ⟨_, rfl, by
      have e2 := Option.some.inj e
      subst e2
      exact h⟩
  | _, _, i + 1, v, .cons _ s, e => s.get (i := i) (v := v) e
  | _, _, i, _, .nil, e => by simp at e
theorem Das.snoc {H : Hp} {N : Addr → Prop} {v : V} {d : PyData} : ∀ {vs : List V} {ds : List PyData}, Das H N vs ds → Da H N v d → Das H N (vs ++ [v]) (ds ++ [d])
  | _, _, .nil, h => .cons h .nil
  | _, _, .cons g s, h => .cons g (s.snoc h)
theorem Das.set {H : Hp} {N : Addr → Prop} {v : V} {d : PyData} : ∀ {vs : List V} {ds : List PyData} {i : Nat}, Das H N vs ds → Da H N v d → Das H N (vs.set i v) (ds.set i d)
  | _, _, _, .nil, _ => .nil
  | _, _, 0, .cons _ s, h => .cons h s
  | _, _, _ + 1, .cons g s, h => .cons g (s.set h)

theorem same_sqT {K : PySem.W.Frag} {H H' : Hp} {a : Addr} {xs : List V} (s : Same H H') (h : SqT K H a xs) : SqT K H' a xs := by
  rcases h with h | h
  · refine .inl ?_
    rcases h with h | ⟨o, h⟩
    · exact .inl (s _ _ h)
    · exact .inr ⟨o, s _ _ h⟩
  · exact .inr h
mutual
theorem dpSame {K : PySem.W.Frag} {H H' : Hp} (s : Same H H') : ∀ {v : V} {d : PyData}, Dp K H v d → Dp K H' v d
  | _, _, .non => .non
  | _, _, .bl b => .bl b
  | _, _, .int i => .int i
  | _, _, .str x => .str x
  | _, _, .lst h r => .lst (s.seq h) (dpSames s r)
  | _, _, .tup h r => .tup (same_sqT s h) (dpSames s r)
theorem dpSames {K : PySem.W.Frag} {H H' : Hp} (s : Same H H') : ∀ {vs : List V} {ds : List PyData}, DpAll K H vs ds → DpAll K H' vs ds
  | _, _, .nil => .nil
  | _, _, .cons h r => .cons (dpSame s h) (dpSames s r)
end
theorem dpLen {K : PySem.W.Frag} {H : Hp} : ∀ {vs : List V} {ds : List PyData}, DpAll K H vs ds → vs.length = ds.length
  | _, _, .nil => rfl
  | _, _, .cons _ s => by rw [List.length_cons, List.length_cons, dpLen s]
theorem dpGet {K : PySem.W.Frag} {H : Hp} : ∀ {vs : List V} {ds : List PyData} {i : Nat} {v : V}, DpAll K H vs ds → vs[i]? = some v → ∃ d, ds[i]? = some d ∧ Dp K H v d
  | _, _, 0, _, .cons h _, e => ⟨_, rfl, by
      have e2 := Option.some.inj e
      subst e2
      exact h⟩
  | _, _, i + 1, v, .cons _ s, e => dpGet (i := i) (v := v) s e
  | _, _, i, _, .nil, e => by simp at e
theorem d1Same {K : PySem.W.Frag} {H H' : Hp} (s : Same H H') {v : V} {d : PyData} (h : D1 K H v d) : D1 K H' v d := by
  cases h with
  | dp h => exact .dp (dpSame s h)
  | emp h => exact .emp (s _ _ h)
/-! ### the class of data -/
def tyN : PyData → String
  | .none => "NoneType"
  | .bool _ => "bool"
  | .int _ => "int"
  | .str _ => "str"
  | .list _ => "list"
  | .tuple _ => "tuple"
  | .dict _ => "dict"
def isIntD : PyData → Bool
  | .bool _ => true
  | .int _ => true
  | _ => false
def isBoolD : PyData → Bool
  | .bool _ => true
  | _ => false
def isStrD : PyData → Bool
  | .str _ => true
  | _ => false
def isTupD : PyData → Bool
  | .tuple _ => true
  | _ => false
def isSeqD : PyData → Bool
  | .list _ => true
  | .tuple _ => true
  | _ => false
theorem tyL {K : PySem.W.Frag} {H : Hp} {a : Addr} {xs : List V} (h : SqL K H a xs) : TyX K H (.ref a) (.type "list") := by
  rcases h with h | ⟨o, _, _, h, hc, _⟩
  · rcases h with h | ⟨o, h⟩
    · exact .base (.lst h)
    · exact .base (.frz h)
  · exact .kList h hc
theorem tyT {K : PySem.W.Frag} {H : Hp} {a : Addr} {xs : List V} (h : SqT K H a xs) : TyX K H (.ref a) (.type "tuple") := by
  rcases h with h | ⟨o, _, _, h, hc, _⟩
  · rcases h with h | ⟨o, h⟩
    · exact .base (.tup h)
    · exact .fTuple h
  · exact .kTuple h hc
theorem tyD {K : PySem.W.Frag} {H : Hp} {v : V} {d : PyData} (h : D1 K H v d) : TyX K H v (.type (tyN d)) := by
  cases h with
  | dp h =>
    cases h with
    | non => exact .base .non
    | bl b => exact .base (.bl b)
    | int i => exact .base (.int i)
    | str x => exact .base (.str x)
    | lst h _ => exact tyL h
    | tup h _ => exact tyT h
  | emp h => exact .base (.dK h)
theorem kInt {K : PySem.W.Frag} (d : PyData) : PySem.W.kitOne K (.type (tyN d)) (.type "int") = some (isIntD d) := by
  cases d
  all_goals exact kit_ty (by simp only [tyN, isIntD]; decide +kernel)
theorem kBool {K : PySem.W.Frag} (d : PyData) : PySem.W.kitOne K (.type (tyN d)) (.type "bool") = some (isBoolD d) := by
  cases d
  all_goals exact kit_ty (by simp only [tyN, isBoolD]; decide +kernel)
theorem kStr {K : PySem.W.Frag} (d : PyData) : PySem.W.kitOne K (.type (tyN d)) (.type "str") = some (isStrD d) := by
  cases d
  all_goals exact kit_ty (by simp only [tyN, isStrD]; decide +kernel)
theorem kTup {K : PySem.W.Frag} (d : PyData) : PySem.W.kitOne K (.type (tyN d)) (.type "tuple") = some (isTupD d) := by
  cases d
  all_goals exact kit_ty (by simp only [tyN, isTupD]; decide +kernel)
theorem kLst {K : PySem.W.Frag} (d : PyData) : PySem.W.kitOne K (.type (tyN d)) (.type "list") = some (isSeqD d && !isTupD d) := by
  cases d
  all_goals exact kit_ty (by simp only [tyN, isSeqD, isTupD]; decide +kernel)
theorem kSeq {K : PySem.W.Frag} (d : PyData) : PySem.W.kitAny K (.type (tyN d)) [.type "list", .type "tuple"] = some (isSeqD d) := by
  refine kitAny_cons (kLst d) (fun z => kitAny_cons (kTup d) (fun y => ?_) fun y => ?_) fun z => ?_
  · have e : isSeqD d = false := by
      cases d
      all_goals simp_all [isSeqD, isTupD]
    rw [e]
    exact kitAny_nil
  · cases d
    all_goals simp_all [isSeqD, isTupD]
  · cases d
    all_goals simp_all [isSeqD, isTupD]
theorem clsSeq : Paired ClsV [.ty "list", .ty "tuple"] [.type "list", .type "tuple"] := .cons (.ty _) (.cons (.ty _) .nil)
/-! ### how long it is when shown -/
def Big (n : Int) : Prop := -(10 ^ 40) ≤ n ∧ n ≤ 10 ^ 40
theorem big_log {n : Int} (h : Big n) : n.natAbs.log2 < 1920 := by
  have h0 : n.natAbs < 2 ^ 1920 := by
    have h1 : n.natAbs ≤ 10 ^ 40 := by
      obtain ⟨h1, h2⟩ := h
      omega
    exact Nat.lt_of_le_of_lt h1 (by decide +kernel)
  by_cases z : n.natAbs = 0
  · rw [z]
    decide +kernel
  · exact (Nat.log2_lt z).mpr h0
/-- it may be shown, in so many signs, so deep -/
structure Okd (d : PyData) (m e : Nat) : Prop where
  sh : d.showable = true
  ln : d.shown.length ≤ m
  dp : d.depth ≤ e
theorem Okd.up {d : PyData} {m e m' e' : Nat} (h : Okd d m e) (h1 : m ≤ m') (h2 : e ≤ e') : Okd d m' e' := ⟨h.sh, Nat.le_trans h.ln h1, Nat.le_trans h.dp h2⟩
theorem okNone : Okd .none 5 0 := ⟨by simp only [PyData.showable], by simp only [PyData.shown]; decide +kernel, by simp only [PyData.depth]; decide⟩
theorem okBool (b : Bool) : Okd (.bool b) 5 0 := by
  refine ⟨by simp only [PyData.showable], ?_, by simp only [PyData.depth]; decide⟩
  cases b
  · simp only [PyData.shown]
    decide +kernel
  · simp only [PyData.shown]
    decide +kernel
theorem okInt {n : Int} (h : Big n) : Okd (.int n) 50 0 := by
  refine ⟨?_, ?_, by simp only [PyData.depth]; decide⟩
  · simp only [PyData.showable, decide_eq_true_eq]
    exact big_log h
  · simp only [PyData.shown]
    rw [PySem.ofString_length]
    have h1 : n.natAbs < 10 ^ 41 := by
      have h1 : n.natAbs ≤ 10 ^ 40 := by
        obtain ⟨h1, h2⟩ := h
        omega
      exact Nat.lt_of_le_of_lt h1 (by decide +kernel)
    exact Nat.le_trans (int_text_length_le10 (k := 41) (by decide) h1) (by decide)
theorem okStr {x : Str} {m : Nat} (h : (reprText x).length ≤ m) : Okd (.str x) m 0 :=
  ⟨by simp only [PyData.showable], by simp only [PyData.shown]; exact h, by simp only [PyData.depth]; decide⟩
theorem okEmp : Okd (.dict []) 5 1 := by
  refine ⟨by simp only [PyData.showable, PyData.showableKv], ?_, by simp only [PyData.depth, PyData.depthKv]; decide⟩
  simp only [PyData.shown, PyData.shownKv]
  decide +kernel
theorem sum_le {m : Nat} : ∀ ts : List Str, (∀ t ∈ ts, t.length ≤ m) → (ts.map (·.length)).sum ≤ m * ts.length
  | [], _ => by simp
  | t :: r, h => by
    have h1 := h t List.mem_cons_self
    have h2 := sum_le r fun x hx => h x (List.mem_cons_of_mem _ hx)
    rw [List.map_cons, List.sum_cons, List.length_cons, Nat.mul_succ]
    show t.length + _ ≤ _
    omega
theorem oks {m e : Nat} : ∀ {ds : List PyData}, (∀ d ∈ ds, Okd d m e) → PyData.showableAll ds = true ∧ (∀ t ∈ PyData.shownAll ds, t.length ≤ m) ∧ PyData.depthAll ds ≤ e ∧ (PyData.shownAll ds).length = ds.length
  | [], _ => ⟨by simp only [PyData.showableAll], by simp [PyData.shownAll], by simp only [PyData.depthAll]; exact Nat.zero_le _, by simp only [PyData.shownAll]; rfl⟩
  | d :: r, h => by
    have a := h d List.mem_cons_self
    obtain ⟨b1, b2, b3, b4⟩ := oks fun x hx => h x (List.mem_cons_of_mem _ hx)
    refine ⟨by simp only [PyData.showableAll, a.sh, b1, Bool.and_self], ?_, ?_, by simp only [PyData.shownAll, List.length_cons, b4]⟩
    · intro t ht
      simp only [PyData.shownAll, List.mem_cons] at ht
      rcases ht with rfl | ht
      · exact a.ln
      · exact b2 t ht
    · have := a.dp
      simp only [PyData.depthAll]
      omega
theorem okList {ds : List PyData} {m e n : Nat} (h : ∀ d ∈ ds, Okd d m e) (l : ds.length ≤ n) : Okd (.list ds) (m * n + 2 * n + 3) (e + 1) := by
  obtain ⟨b1, b2, b3, b4⟩ := oks h
  refine ⟨by simp only [PyData.showable, b1], ?_, by simp only [PyData.depth]; omega⟩
  simp only [PyData.shown]
  have h1 := listText_len_le (PyData.shownAll ds)
  have h2 := sum_le _ b2
  rw [b4] at h1 h2
  have h3 : m * ds.length ≤ m * n := Nat.mul_le_mul_left m l
  omega
theorem okTuple {ds : List PyData} {m e n : Nat} (h : ∀ d ∈ ds, Okd d m e) (l : ds.length ≤ n) : Okd (.tuple ds) (m * n + 2 * n + 3) (e + 1) := by
  obtain ⟨b1, b2, b3, b4⟩ := oks h
  refine ⟨by simp only [PyData.showable, b1], ?_, by simp only [PyData.depth]; omega⟩
  simp only [PyData.shown]
  have h1 := tupleText_len_le (PyData.shownAll ds)
  have h2 := sum_le _ b2
  rw [b4] at h1 h2
  have h3 : m * ds.length ≤ m * n := Nat.mul_le_mul_left m l
  omega
theorem line_le {n : Nat} (h : n ≤ 1000000) : n ≤ sizeLine := Nat.le_trans h (by decide)
theorem bLn (B : Bool) : (PyData.bool B).shown.length ≤ sizeLine := Nat.le_trans (okBool B).ln (by decide)
theorem bDp (B : Bool) : (PyData.bool B).depth ≤ 60 := Nat.le_trans (okBool B).dp (by decide)
theorem ifSame {x : V} {A B : Prop} (h : B) : if (!decide (x = x)) = true then A else B := by
  rw [decide_eq_true rfl]
  exact h
/-! ### heaps and picks -/
theorem same_new {H : Hp} {p : Addr} {o : HO} (h : H p = none) : Same H (upd H p o) := fun b x e => by
  rw [upd_ne (ne_of_none e h)]
  exact e
theorem kep {H : Hp} {p q : Addr} {o u : HO} (h : H p = some o) (n : H q = none) : (upd H q u) p = some o := by
  rw [upd_ne (ne_of_none h n)]
  exact h
theorem upd_none {H : Hp} {p q : Addr} {o : HO} (h : upd H p o q = none) : H q = none := by
  unfold upd at h
  split at h
  · cases h
  · exact h
theorem pickL (xs : List V) {k : Int} (h0 : 0 ≤ k) (h1 : k < xs.length) : ∃ v, v ∈ xs ∧ atI xs k = some v := by
  obtain ⟨j, rfl⟩ : ∃ j : Nat, k = j := ⟨k.toNat, by omega⟩
  have hj : j < xs.length := by omega
  exact ⟨xs[j], List.getElem_mem hj, atI_nat (List.getElem?_eq_getElem hj)⟩
theorem pickK (xs : List V) {k : Int} (h0 : 0 ≤ k) (h1 : k < xs.length) : ∃ v, xs[k.toNat]? = some v ∧ atI xs k = some v := by
  obtain ⟨j, rfl⟩ : ∃ j : Nat, k = j := ⟨k.toNat, by omega⟩
  have hj : j < xs.length := by omega
  exact ⟨xs[j], List.getElem?_eq_getElem hj, atI_nat (List.getElem?_eq_getElem hj)⟩
theorem boxAway {H : Hp} {b D : Addr} {o : HO} (h : BoxAt H b) (n : D ≠ b) : BoxAt (upd H D o) b := by
  obtain ⟨x, y, z, h1, h2, h3, h4⟩ := h
  refine ⟨x, y, z, h1, h2, h3, ?_⟩
  rw [upd_ne n.symm]
  exact h4
theorem boxSame {b : Addr} {H H' : Hp} (h : BoxAt H b) (s : Same H H') : BoxAt H' b := by
  obtain ⟨x, y, z, h1, h2, h3, h4⟩ := h
  exact ⟨x, y, z, h1, h2, h3, s _ _ h4⟩
theorem same_kp {b : Addr} {H H' : Hp} (s : Same H H') : Kp b H H' := fun c o _ z => s c o z
theorem same_keep {H H' H'' : Hp} {b : Addr} (s : Same H H') (n : H' b = none) (k : ∀ c o, c ≠ b → H' c = some o → H'' c = some o) : Same H H'' := fun c o z =>
  k c o (ne_of_none (s c o z) n) (s c o z)
/-- new in H, where the box is b -/
def Nw (H : Hp) (b : Addr) : Addr → Prop := fun c => c = b ∨ ∃ o, H c = some o
theorem nw_of {H H' : Hp} {b p : Addr} (k : Kp b H H') (n : H' p = none) (hb : p ≠ b) : ¬ Nw H b p := by
  rintro (h | ⟨o, h⟩)
  · exact hb h
  · rw [k p o hb h] at n
    cases n
theorem Kp.kq {b : Addr} {H H' : Hp} {N : Addr → Prop} (k : Kp b H H') (n : N b) : Kq N H H' := fun c o hc z => k c o (fun e => hc (e ▸ n)) z
theorem defAt {K : PySem.W.Frag} {mg : Str → Option Value} {x : Str} {st : Stmt} {ps : List Str} {f : Addr} {oc : Value} {od an : Option Addr} {osl : Array (Option Value)} {kV doc pm cdv ct : Value}
    (m : mg x = some (.ref f))
    (l : K.lookup f = some ⟨oc, od, .func (PySem.W.fnOf x x (defArgs st) (defBody st) (defScope st) .none kV doc pm an cdv ct), osl⟩)
    (c : PySem.W.codeIn K cdv x = true) (k : PySem.W.keepIn K (.ref f) = true)
    (b : ∀ (kV doc pm : Value) (an : Option Addr) (cdv ct : Value) (us : List Value), us.length = ps.length →
      bindArgs (PySem.W.fnOf x x (defArgs st) (defBody st) (defScope st) .none kV doc pm an cdv ct) ⟨us, []⟩ = pure (ps.zip us)) :
    DefAt K mg x st ps := by
  have F := fun_mk (st := st) l c k
  exact ⟨f, _, F, m, F.binds b⟩
end Gd
/-! An own error whose __init__ says super().__init__(a text), then keeps the one thing it is made of. -/
namespace Ge
open PySem PySem.W PySem.Calls PyProof.Rows PySem.HandSPX
def iA (p1 p2 : Pos) : Arguments := { posonlyargs := [], args := [{ arg := "self", annotation := none, pos := p1 }, { arg := "found", annotation := none, pos := p2 }], vararg := none, kwonlyargs := [], kw_defaults := [], kwarg := none, defaults := [] }
def iB (msg : Str) (kk : Nat) (p1 p2 p3 p4 p5 p6 q1 q2 q3 q4 : Pos) : List Stmt :=
  [.Expr (.Call (.Attribute (.Call (.Name "super" p1) [] [] p2) "__init__" p3) [.Constant (.str msg) kk p4] [] p5) p6,
   .Assign [.Attribute (.Name "self" q1) "found" q2] (.Name "found" q3) q4]
def iS : Scope := { kind := .function, names := [(PySem.Str.ofString "self", .local), (PySem.Str.ofString "found", .local), (PySem.Str.ofString "__class__", .free), (PySem.Str.ofString "super", .globalImplicit)], isGenerator := false, isCoroutine := false, more := [] }
/-- what the written part says of the class at C and of its __init__ at fI -/
structure ErrTxt (P : Program) (K : Frag) (C fI : Addr) (qn msg : Str) : Prop where
  cls : ∃ nm q N bs bm sn sub ab col dd k0 k1 k2 k3 k5, K.lookup C = some (excClassObj nm q C N bs bm true sn sub ab col dd k0 k1 k2 k3 k5 "ValueError.__new__") ∧ refsVE bm = true
  sa : findIn K (.ref C) "__setattr__" = some (some (.builtin "object.__setattr__"))
  ga : findIn K (.ref C) "__getattribute__" = some (some (.builtin "BaseException.__getattribute__"))
  gg : findIn K (.ref C) "__getattr__" = some none
  noN : findIn K (.ref C) "found" = some none
  iC : findIn K (.ref C) "__init__" = some (some (.ref fI))
  tC : typeIn K (.ref fI) = some (.type "function")
  kC : keepIn K (.ref C) = true
  exC : subIn K (.ref C) (.type "BaseException") = some true
  veC : subIn K (.ref C) (.type "ValueError") = some true
  tyC : typeIn K (.ref C) = some (.type "type")
  hdC : hasDictIn K C = true
  sub : mroIn K C (.ref C) = some true
  sup : ks_superIn K C C "__init__" = some (some (.builtin "ValueError.__init__"))
  op : nsIn K cStatics "thirdparty.any" = some none
  zs : nsIn K mainGlobals "super" = some none
  htop : (P.main.scope.names.lookup ("super" : Str)).isSome = false
  fn : ∃ (oc : Value) (od : Option Addr) (doc pm : Value) (an : Option Addr) (cda cc : Addr) (ct : Value) (osl : Array (Option Value)) (kk : Nat) (p1 p2 p3 p4 p5 p6 q1 q2 q3 q4 r1 r2 : Pos) (ccl cl : Value) (cdd cld : Option Addr) (vs : Array Value) (ccs csl : Array (Option Value)) (file : Str) (tf : Tok),
    K.lookup fI = some ⟨oc, od, .func (ksFn "__init__" qn (iA r1 r2) (iB msg kk p1 p2 p3 p4 p5 p6 q1 q2 q3 q4) iS .none .none doc pm an (.ref cda) ct cc), osl⟩ ∧ codeIn K (.ref cda) qn = true ∧
    K.lookup cda = some ⟨ccl, cdd, .fields vs, ccs⟩ ∧ vs[2]? = some (.str file tf) ∧ ((P.main.file : Str) == file) = true ∧
    K.lookup cc = some ⟨cl, cld, .cell (some (.ref C)), csl⟩ ∧ (p3.endLine == p5.line) = true
/-- what __init__ leaves of a fresh exception at x -/
structure InitEnd (h h' : Heap) (x C dx t1 : Addr) (v : Value) : Prop where
  keep : ∀ b o, b ≠ x → h.get? b = some o → h'.get? b = some o
  obj : h'.get? x = some { cls := .ref C, dict := some dx, data := .fields #[.ref t1, .none, .none, .none, .bool false, .none] }
  dbig : h.objs.size ≤ dx
  dne : dx ≠ x
  ns : h'.Ns1 dx (fun y => if y = "found" then some v else none)
theorem iS_nocell : ∀ y ∈ iS.names, y.2 ≠ .cell := by decide +kernel
theorem iS_loc (x v : Value) : ∀ y ∈ ([(PySem.Str.ofString "self", x), (PySem.Str.ofString "found", v)] : List (Str × Value)), iS.names.lookup y.1 = some .local := by
  intro y hy
  simp only [List.mem_cons, List.not_mem_nil, or_false] at hy
  rcases hy with rfl | rfl
  · exact (by decide +kernel : iS.names.lookup (PySem.Str.ofString "self") = some .local)
  · exact (by decide +kernel : iS.names.lookup (PySem.Str.ofString "found") = some .local)
/-- o.name(..) in a body that is known to run, the call's line told -/
theorem at_method {M : Model} {A : Around} {c : Code} {E : Value → Shared → Prop} {s : Shared} {env : Env} {o : Expr} {name : Str} {apos pos : Pos} {args : List Expr} {Q : Value → Shared → Prop}
    (hl : (apos.endLine == pos.line) = true) (hf : methodCallForm (args.length + ([] : List Keyword).length) (backTo pos (starEach args env)) (backToKw pos (keywordEach [] env)) = true)
    (h : _root_.PySem.wpAt M A c (attributeBase o name env (eval o env)) (fun ov s₁ => wpAny M A (getMethod ov name (do return (← importBound o env).getD true))
      (fun fx s₂ => wpAny M A (callWith pos fx.1 fx.2 (backTo pos (starEach args env)) (backToKw pos (keywordEach [] env))) Q E s₂) E s₁) E s) :
    _root_.PySem.wpAt M A c (eval (.Call (.Attribute o name apos) args [] pos) env) Q E s := by
  rw [arm_eval_Call]
  apply _root_.PySem.wpAt_bind
  apply _root_.PySem.wpAt_mono h
  · intro ov s₁ h₁
    apply _root_.PySem.wpAt_of_wpAny
    apply wpAny_bind
    apply wpAny_standAt
    have hp : methodCallPos true o env apos pos = pure pos := by
      unfold methodCallPos
      simp [hl]
    unfold methodCall
    rw [hf]
    apply wpAny_bind
    apply wpAny_holding
    apply wpAny_mono h₁
    · intro fx s₂ h₂
      exact wpAny_bind (wpAny_of_eq hp h₂)
    · intro _ _ z
      exact z
  · intro _ _ z
    exact z
section
variable {prog : Program} {w : World} {A : Around} {E : Value → Shared → Prop} {R : Result → Shared → Prop} {s : Shared} {K : Frag} {mg mb : Str → Option Value} {C fI : Addr} {qn msg : Str}
theorem sup_call {h : Heap} {g : Array GenState} {d : Drawn} {t : Nat} {os : OsState} {u e t0 : Addr} {one : Value} {Q : Value → Shared → Prop}
    {nm q : Str} {N : Addr} {bs bm sub : List Value} {sn : List Str} {ab : Bool} {col : Option Bool} {dd : Option Addr} {k0 k1 k2 k3 k5 : Option Value}
    (hC : h.get? C = some (excClassObj nm q C N bs bm true sn sub ab col dd k0 k1 k2 k3 k5 "ValueError.__new__")) (he : h.get? e = some (excO C t0)) (hu : h.get? u = some (kxs_mw "ValueError.__init__" e))
    (hq : ∀ h' t1, (∀ b o, b ≠ e → h.get? b = some o → h'.get? b = some o) → h'.get? e = some (excO C t1) → Q .none ⟨h', g, d, t, os⟩) :
    wpAny (model prog w) A (call (.ref u) [one]) Q E ⟨h, g, d, t, os⟩ := by
  refine wpAny_call (codeAny_of_tree (show wpAny _ (Around.in1 _) (callAny (.ref u) ⟨[one], []⟩) _ _ _ from ?_))
  have e1 : (Value.type "method-wrapper" == Value.type "method" || Value.type "method-wrapper" == Value.type "builtin_function_or_method" || Value.type "method-wrapper" == Value.type "method-wrapper") = true := by decide
  simp only [callAny]
  refine wpAny_bind (m := load u) (wpAny_load hu ?_)
  simp only [kxs_mw, e1, if_true]
  refine (KFB.if_so (by decide) (wpAny_bind (check_bound_init F.excBase_ValueError.toExcCallFacts hC he rfl ?_)))
  refine (wpAny_bind (wpAny_pure (wpAny_pure (And.intro (plainId_quiet F.excBase_ValueError.init.plain _) (codeAny_builtin F.excBase_ValueError.initEntry ?_)))))
  have lz : [one].length ≤ sizeLine := by
    rw [sizeLine_eq]
    exact (by decide : 1 ≤ 16777216)
  exact exc_init_tree (cls := .ref C) (t0 := t0) (dv := none) (c2 := .none) (c3 := .none) (b4 := .bool false) he lz (fun h₄ k₄ hx₄ _ => hq h₄ _ k₄ hx₄)
theorem err_init (T : ErrTxt prog K C fI qn msg) {x t0 : Addr} {v : Value} (X : K.In s.heap) (lim : s.heap.NoLimit) (gl : s.heap.Ns mainGlobals mg) (bl : s.heap.Ns builtinsNs mb)
    (bb : ∀ x : Str, x ≠ "__name__" → mb x = bootBuiltins x) (hx : s.heap.get? x = some (excO C t0)) (hnx : K.lookup x = none) (room : A.depth < recursionLimit)
    (hq : ∀ h' tk dx t1, InitEnd s.heap h' x C dx t1 v → R (.ok (.ret .none)) { s with heap := h', toks := tk }) :
    codeAny (model prog w) A (.call (.ref fI) ⟨[.ref x, v], []⟩) R s := by
  obtain ⟨oc, od, doc, pm, an, cda, cc, ct, osl, kk, p1, p2, p3, p4, p5, p6, q1, q2, q3, q4, r1, r2, ccl, cl, cdd, cld, vs, ccs, csl, file, tf, ho, hcd, hcode, hvs, hfile, hcell, hline⟩ := T.fn
  obtain ⟨nm, q, N, bs, bm, sn, sub, ab, col, dd, k0, k1, k2, k3, k5, hC, hbm⟩ := T.cls
  have hzs := mg_none_of X gl T.zs
  obtain ⟨hp, g, dr, tk, os⟩ := s
  refine ks_codeAny_call_defAt (binds := [("self", .ref x), ("found", v)]) room (X _ _ ho) rfl lim (codeRec_of X hcd) rfl (BindsTo.of_eq (by first | rfl | with_unfolding_all rfl)) iS_nocell (iS_loc _ _) (fun h₁ hns k₁ => ?_) rfl rfl rfl
  have X₁ : K.In h₁ := X.keeps k₁
  have hx₁ := k₁ _ _ hx
  refine ks_wpAt_execs_cons (ks_wpAt_Expr_any (at_method hline (by first | rfl | with_unfolding_all rfl) ?_))
  refine ks_wpAt_super_base rfl rfl (by decide) rfl (X₁ _ _ ho) rfl rfl rfl (X₁ _ _ hcode) rfl hvs hfile T.htop ?_
  refine ks_loadName_global rfl rfl (loadGlobal_builtin (gl.keeps k₁) hzs (bl.keeps k₁) ((bb _ (by decide +kernel)).trans (by decide +kernel : bootBuiltins "super" = some (.type "super"))) ⟨rfl, ?_⟩)
  refine wpAny_loadName_free rfl rfl rfl ⟨_, X₁ _ _ hcell, rfl⟩ ?_
  refine wpAny_loadName_local rfl rfl hns (v := .ref x) (by first | rfl | with_unfolding_all rfl) ?_
  refine ks_wpAny_isType_cls (X₁ _ _ hC) rfl ⟨rfl, ?_⟩
  refine ks_wpAny_call_super (X₁ _ _ hC) rfl hx₁ rfl (fun c e => nomatch e) (looks_mroIn X₁ T.sub) (fun h₂ e₂ k₂ => ?_)
  have X₂ : K.In h₂ := X₁.keeps k₂
  have hx₂ := k₂ _ _ hx₁
  have I₂ : InstAt h₂ x (excO C t0) C none := ⟨hx₂, rfl, rfl, trivial⟩
  have hcl : clsIn K C = some { name := nm, bases := bs, mro := .ref C :: bm, ns := N, qualname := q, hasDict := true, slotNames := sn, subclasses := sub, abstract := ab, collection := col, hasDel := false } := by
    unfold clsIn
    rw [hC]
    all_goals rfl
  have hm := T.sup
  unfold ks_superIn at hm
  rw [hcl] at hm
  have hI : Looks (model prog w) h₂ (isInstance (.ref x) (.type "ValueError")) true := I₂.type.andThen (looks_subIn X₂ T.veC)
  have hxC : x ≠ C := fun z => by
    rw [z, hC] at hnx
    cases hnx
  refine kxs_getMethod kxs_ValueError e₂ (looks_opaque X₂ T.op) (l₀ := .ref C :: bm) ?_ rfl X₂ hm hI hxC (by decide +kernel) ?_
  · exact fun A Q E s k q => wpAny_bind ((looks_clsIn X₂ hcl) A _ E s k (wpAny_pure q))
  have hu : (h₂.push (kxs_mw "ValueError.__init__" x)).get? h₂.objs.size = some (kxs_mw "ValueError.__init__" x) := Heap.get?_push_at rfl rfl
  have k₃ : ∀ b o, h₂.get? b = some o → (h₂.push (kxs_mw "ValueError.__init__" x)).get? b = some o := fun b o e => Heap.get?_push_of_some _ e
  have X₃ : K.In (h₂.push (kxs_mw "ValueError.__init__" x)) := X₂.keeps k₃
  have hx₃ := k₃ _ _ hx₂
  refine kxs_callWith (i := "ValueError.__init__") (x := x) (by rfl) (evalArgs_plain ?_)
  refine Calls.spliced_cons (Calls.Constant_str (k := kk) (pos := p4) ?_)
  refine Calls.spliced_nil ⟨hu, ?_⟩
  refine sup_call (X₃ _ _ hC) hx₃ hu (fun h₄ t1 k₄ hx₄ => ?_)
  -- self.found = found
  have X₄ : K.In h₄ := fun a o e => k₄ a o (fun z => by rw [z, hnx] at e; cases e) (X₃ a o e)
  have hLx : hp.objs.size ≠ x := Nat.ne_of_gt (Heap.lt_size hx)
  have hn₄ := hns
  obtain ⟨oL, es, ep, eL, rL⟩ := hn₄
  have hn₄ : h₄.Ns hp.objs.size _ := ⟨oL, es, ep, k₄ _ _ hLx (k₃ _ _ (k₂ _ _ eL)), rL⟩
  have big : hp.objs.size < h₄.objs.size := hn₄.lt
  show _root_.PySem.wpAt _ _ _ (execs _ _) _ _ _
  refine _root_.PySem.wpAt_of_wpAny (wpAny_execs_cons (plainObj_wpAny_Assign_Attribute ?_))
  refine wpAny_Name (wpAny_loadName_local rfl rfl hn₄ (v := v) (by first | rfl | with_unfolding_all rfl) ?_) (by decide)
  refine wpAny_Name (wpAny_loadName_local rfl rfl hn₄ (v := .ref x) (by first | rfl | with_unfolding_all rfl) ?_) (by decide)
  refine set_plain X₄ (ox := excO C t1) (od := none) ⟨hx₄, rfl, rfl, trivial⟩ T.sa ?_
  refine HandSPX.exc_osa X₄ hx₄ hcl (show refsVE (.ref C :: bm) = true from hbm) rfl T.noN (fun h₅ tk₅ dx k₅ dn dne hx₅ hn₅ => ?_)
  show wpAny _ _ (execs _ _) _ _ _
  exact wpAny_execs_nil (hq h₅ tk₅ dx t1 ⟨fun b o hb e => k₅ b o hb (k₄ b o hb (k₃ b o (k₂ b o (k₁ b o e)))), hx₅, Nat.le_trans (Nat.le_of_lt big) dn, dne, hn₅⟩)
/-- an error that was made: its own dict d holds the thing -/
structure OwnMade (h h' : Heap) (e C d : Addr) (v : Value) : Prop where
  keep : ∀ b o, h.get? b = some o → h'.get? b = some o
  new : h.objs.size ≤ e
  obj : ∃ oe vs, h'.get? e = some oe ∧ oe.cls = .ref C ∧ oe.dict = some d ∧ oe.data = .fields vs ∧ vs[1]? = some .none
  dbig : h.objs.size ≤ d
  dne : d ≠ e
  ns : h'.Ns1 d (fun y => if y = "found" then some v else none)
theorem one_size (v : Value) : [v].length ≤ sizeLine := by
  rw [sizeLine_eq]
  exact (by decide : 1 ≤ 16777216)
theorem err_made (T : ErrTxt prog K C fI qn msg) {v : Value} (X : K.In s.heap) (lim : s.heap.NoLimit) (gl : s.heap.Ns mainGlobals mg) (bl : s.heap.Ns builtinsNs mb)
    (bb : ∀ x : Str, x ≠ "__name__" → mb x = bootBuiltins x) (room : A.depth + 1 < recursionLimit)
    (hq : ∀ h' tk e d, OwnMade s.heap h' e C d v → R (.ok (.ret (.ref e))) { s with heap := h', toks := tk }) :
    codeAny (model prog w) A (.call (.ref C) ⟨[v], []⟩) R s := by
  obtain ⟨nm, q, N, bs, bm, sn, sub, ab, col, dd, k0, k1, k2, k3, k5, hC, hbm⟩ := T.cls
  obtain ⟨hp, g, dr, tk, os⟩ := s
  have k : ∀ b o, hp.get? b = some o → ((hp.push (kdv_tup [v])).push (excO C hp.objs.size)).get? b = some o := fun b o e => Heap.get?_push_of_some _ (Heap.get?_push_of_some _ e)
  have hget : ((hp.push (kdv_tup [v])).push (excO C hp.objs.size)).get? (hp.objs.size + 1) = some (excO C hp.objs.size) := by heap_get
  have hnx : K.lookup (hp.objs.size + 1) = none := by
    cases e : K.lookup (hp.objs.size + 1) with
    | none => rfl
    | some o =>
      have z : hp.get? (hp.objs.size + 1) = some o := X _ _ e
      exact absurd (Nat.lt_of_succ_lt (Heap.lt_size z)) (Nat.lt_irrefl _)
  refine HandSPX.call_own F.excBase_ValueError (fun X => refsVE_contains X bm hbm) (X _ _ hC) (looks_findIn X T.iC) (fun self => bind_fn X self T.tC) (one_size v) ?_
  refine err_init (s := ⟨(hp.push (kdv_tup [v])).push (excO C hp.objs.size), g, dr, tk, os⟩) T (X.keeps k) (lim.keeps k) (gl.keeps k) (bl.keeps k) bb hget hnx ?_ fun h' tk' dx t1 ⟨k', hx, dn, dne, hns⟩ => ?_
  · show A.depth + 1 < recursionLimit
    exact room
  · have old : ∀ b o, hp.get? b = some o → h'.get? b = some o := fun b o e => k' b o (Nat.ne_of_lt (Nat.lt_succ_of_lt (Heap.lt_size e))) (k b o e)
    have z : hp.objs.size + 1 + 1 ≤ dx := by
      first
        | (simpa only [Heap.size_push] using dn)
        | exact dn
        | (have q := dn; rw [Heap.size_push, Heap.size_push] at q; exact q)
    exact ⟨rfl, hq h' tk' (hp.objs.size + 1) dx ⟨old, Nat.le_succ _, ⟨_, _, hx, rfl, rfl, rfl, rfl⟩, Nat.le_trans (Nat.le_trans (Nat.le_succ _) (Nat.le_succ _)) z, dne, hns⟩⟩
end
end Ge
namespace Ge
open PySem PySem.Spec PyProof.Rows L2
theorem relO_f {v : V} {v' : Value} (r : RelV v v') (f : Str) : RelO (List.lookup f [(("found" : Str), v)]) (if f = "found" then some v' else none) := by
  by_cases hw : f = "found"
  · subst hw
    rw [if_pos rfl]
    have q : List.lookup ("found" : Str) [(("found" : Str), v)] = some v := by simp [List.lookup]
    rw [q]
    exact r
  · rw [if_neg hw]
    have qw : (f == ("found" : Str)) = false := by simpa using hw
    have q2 : List.lookup f [(("found" : Str), v)] = none := by simp [List.lookup, qw]
    rw [q2]
    trivial
section
variable {X : Cx} {C fI : Addr} {qn msg cn : Str}
/-- E(e) -/
def tMkE (C : Addr) (ta : TA) : L2.St → Hp → XK → Prop := fun σ H Q => ta σ H fun vs H1 => ∃ v, vs = [v] ∧ ∀ d, H1 d = none → Q (.ref C) (some d) (upd H1 d (.xd [(("found" : Str), v)]))
theorem pmk_err {a : Expr} {ta : TA} {p pos : Pos} {k : Nat} (T : ErrTxt X.prog X.K C fI qn msg) (gC : X.mg cn = some (.ref C)) (hr : Room k X.A) (ha : PA X [a] ta) (hg : Gl X cn)
    (hdb : (cn == ("__debug__" : Str)) = false := by decide)
    (he : starEach (a :: []) X.env = (false, eval a X.env) :: starEach [] X.env := by rfl) (hpl : (backTo pos (starEach [] X.env)).any (·.1) = false := by rfl) :
    PMk X (.Call (.Name cn p) [a] [] pos) (tMkE C ta) := by
  intro pins s σ H Q I h
  apply wpAny_Call_Name_kw
  apply ld_glob I hg gC (hd := hdb)
  refine PySem.W.callWith_K (h₀ := X.base) I.ok.mod.kin T.kC (thn (ha.run pos pins s σ H _ I h) ?_) he hpl
  rintro us s1 ⟨vs, H1, I1, r1, v, ev, q1⟩
  subst ev
  refine ⟨I1.kIn, ?_⟩
  cases r1 with
  | cons rv rn =>
    rename_i v' us'
    cases rn
    show wpAny _ _ (call (.ref C) [v']) _ _ _
    have hlim := I1.nolimit
    have hgl := I1.mod.glob.keeps I1.bk
    obtain ⟨mb, hbl0, hbb⟩ := I1.mod.blt
    have hbl := hbl0.keeps I1.bk
    obtain ⟨hp, g, dr, tk, os⟩ := s1
    refine wpAny_call (err_made T I1.kIn hlim hgl hbl hbb (by have := hr.dp; omega) fun h' tk' e d M => ?_)
    show MkP X pins σ Q (.ref e) ⟨h', g, dr, tk', os⟩
    obtain ⟨oe, fv, hoe, hc, hd, hdat, h1⟩ := M.obj
    have hns := M.ns
    obtain ⟨G', g1, g2⟩ := restrict h' fun b => decide (b ≠ e)
    have gk : ∀ b, b ≠ e → G'.get? b = h'.get? b := fun b hb => g1 b (decide_eq_true hb)
    have ge : G'.get? e = none := g2 e (by simp)
    have old : ∀ b o, hp.get? b = some o → G'.get? b = some o := fun b o q => (gk b (Nat.ne_of_lt (Nat.lt_of_lt_of_le (Heap.lt_size q) M.new))).trans (M.keep b o q)
    have ob : ObjOk X.prog X.w (upd H1 d (.xd [(("found" : Str), v)])) G' d (.xd [(("found" : Str), v)]) :=
      ⟨_, hns.at (fun o q => (gk d M.dne).trans q), fun f => relO_f rv f⟩
    have J : Inv X pins σ (upd H1 d (.xd [(("found" : Str), v)])) ⟨G', g, dr, tk', os⟩ := I1.laid (t' := tk') old M.dbig ob
    refine ⟨e, oe, fv, ⟨G', g, dr, tk', os⟩, _, .ref C, some d, rfl, J, fun b o q => ?_, ge, hoe, ⟨hc, hd⟩, hdat, h1, ?_, rfl, I1.bare, raises_own T.exC T.tyC, q1 d (I1.hok.fresh M.dbig)⟩
    · by_cases hb : b = e
      · have q' : G'.get? b = some o := q
        rw [hb, ge] at q'
        cases q'
      · exact (gk b hb).symm.trans q
    · rw [upd_ne (Ne.symm M.dne)]
      exact I1.hok.fresh M.new
/-- raise E(e) -/
def tRaiseE (C : Addr) (W : WX) (ta : TA) : TS := fun _ σ H => tMkE C ta σ H fun cls d H' => W cls d σ H'
theorem ps_raiseE {a : Expr} {ta : TA} {W : WX} {p pos pos2 : Pos} {k : Nat} (hc : X.calm = true) (T : ErrTxt X.prog X.K C fI qn msg) (gC : X.mg cn = some (.ref C)) (hr : Room k X.A) (tk : Takes X W) (ha : PA X [a] ta) (hg : Gl X cn)
    (hdb : (cn == ("__debug__" : Str)) = false := by decide)
    (he : starEach (a :: []) X.env = (false, eval a X.env) :: starEach [] X.env := by rfl) (hpl : (backTo pos (starEach [] X.env)).any (·.1) = false := by rfl) :
    PS X (.Raise (some (.Call (.Name cn p) [a] [] pos)) none pos2) (tRaiseE C W ta) := ps_raise hc tk (pmk_err T gC hr ha hg hdb he hpl)
/-- e.found, e the exception that the suite holds (at a; its class cls, its dict d) -/
def tFound (C : Addr) (a : Addr) (cls : Value) (d : Option Addr) (te : TE) : TE := fun σ H Q => te σ H fun x H1 => x = .ref a ∧ cls = .ref C ∧ ∃ (dd : Addr) (v : V), d = some dd ∧ H1 dd = some (.xd [(("found" : Str), v)]) ∧ Q v H1
theorem pe_found {a : Addr} {oe : Obj} {cls : Value} {d : Option Addr} {pn : List (Addr × Obj)} {e : Expr} {te : TE} {pos : Pos} (T : ErrTxt X.prog X.K C fI qn msg) (hz : Zc cls d oe) (hf : ∃ vs, oe.data = .fields vs) (he : PE (X.suite a ((a, oe) :: pn)) e te)
    (hb : attributeBase e "found" X.env (eval e X.env) = eval e X.env := by rfl) :
    PE (X.suite a ((a, oe) :: pn)) (.Attribute e "found" pos) (tFound C a cls d te) := by
  constructor
  intro pins s σ H Q I h
  refine attr_of hb (thn (he.run pins s σ H _ I h) ?_)
  rintro u s1 ⟨x, H1, I1, rx, ex, ec, dd, v, ed, ea, q⟩
  subst ex
  obtain rfl : u = Value.ref a := rx
  subst ec
  subst ed
  have ha := (I1.pin (a, oe) (List.mem_append_left _ List.mem_cons_self)).1
  obtain ⟨vs, hd⟩ := hf
  have hx : ObjOk X.prog X.w H1 s1.heap dd (.xd [(("found" : Str), v)]) := I1.hok dd _ ea
  obtain ⟨mA, hns, hr⟩ := hx
  obtain ⟨od, ho, hl⟩ := lookIn_ns hns
  have l : List.lookup ("found" : Str) [(("found" : Str), v)] = some v := by simp [List.lookup]
  obtain ⟨u, hu, ru⟩ := RelO.some_of (v := v) (o := mA "found") (by rw [← l]; exact hr "found")
  have J : PySem.W.InstAt s1.heap a oe C (some od) := by
    refine ⟨ha, hz.1, ?_, by rw [hz.2]; exact ho⟩
    unfold PySem.W.notCls
    rw [hd]
    all_goals rfl
  exact HandSPX.exc_get I1.kIn J T.ga T.gg T.exC (PySem.W.findObj_own T.hdC T.noN rfl (by rw [hl, hu])) (handed_of ru) ⟨v, H1, I1.tok _, ru, q⟩
/-- what a class of errors must say so that isinstance asks it -/
structure IsTxt (K : PySem.W.Frag) (C : Addr) : Prop where
  ha : PySem.W.findIn K (.ref C) "__class__" = some (some (.builtin "object.__class__"))
  hn : PySem.W.specialIn K (.builtin "object.__class__") "__get__" = some (some (.builtin "getset_descriptor.__get__"))
  ht : PySem.W.takesIn K (.builtin "object.__class__") = some true
  hm : PySem.W.mroIn K C (.type "object") = some true
/-- isinstance(e, c), e the exception that the suite holds, with its own dict -/
def rIsF (K : PySem.W.Frag) (C a : Addr) (cls : Value) (d : Option Addr) : List V → Hp → VK → Prop := fun xs H Q => ∃ (c : V) (cv : Value) (b : Bool) (dd : Addr) (v : V), xs = [.ref a, c] ∧ cls = .ref C ∧ d = some dd ∧
  H dd = some (.xd [(("found" : Str), v)]) ∧ ClsV c cv ∧ PySem.W.kitOne K (.ref C) cv = some b ∧ Q (.bl b) H
theorem call_isF {a : Addr} {oe : Obj} {cls : Value} {d : Option Addr} {pn : List (Addr × Obj)} (T : ErrTxt X.prog X.K C fI qn msg) (S : IsTxt X.K C) (hz : Zc cls d oe) (hf : ∃ vs, oe.data = .fields vs) :
    CallR (X.suite a ((a, oe) :: pn)) (.builtin "isinstance") (rIsF X.K C a cls d) := by
  intro pins s σ H xs us Q I r h
  obtain ⟨c, cv, b, dd, v, rfl, rfl, rfl, ea, hcv, e, q⟩ := h
  obtain ⟨u1, u2, rfl, r1, r2⟩ := vals2 r
  cases (show u1 = Value.ref a from r1)
  have e2 := hcv.eq r2
  subst e2
  have ha := (I.pin (a, oe) (List.mem_append_left _ List.mem_cons_self)).1
  obtain ⟨vs, hd⟩ := hf
  have hx : ObjOk X.prog X.w H s.heap dd (.xd [(("found" : Str), v)]) := I.hok dd _ ea
  obtain ⟨mA, hns, _⟩ := hx
  obtain ⟨od, ho, _⟩ := lookIn_ns hns
  have J : PySem.W.InstAt s.heap a oe C (some od) := by
    refine ⟨ha, hz.1, ?_, by rw [hz.2]; exact ho⟩
    unfold PySem.W.notCls
    rw [hd]
    all_goals rfl
  have hcl : (PySem.W.clsIn X.K C).isSome = true := by
    obtain ⟨cd, hc, _⟩ := PySem.W.any_some T.hdC
    rw [hc]
    rfl
  exact PySem.W.kia_one (PySem.W.kitx_exc hcl T.ga T.gg T.exC S.ha S.hn S.ht S.hm) I.kIn J e (fun z => nomatch z) fun tk => ⟨.bl b, H, I.kept (t' := tk) fun _ _ z => z, rfl, q⟩
end
end Ge
/-! Defs that raise, their promise kept where no repr is under way. -/
namespace Gd
open PySem PySem.Spec PyProof.Rows L2
structure CalX (P : Program) (w : World) (K : PySem.W.Frag) (mg : Str → Option Value) (base : Heap) (k : Nat) (x : Str) (sp : Sp) : Prop where
  ex : ∃ (f : Addr) (fd : FuncData) (ps : List Str), FnG P w K mg base (L2.CX P w) k f fd ps sp ∧ mg x = some (.ref f) ∧
    PySem.W.keepIn K (.ref f) = true ∧ Binds K fd ps []
section
variable {P : Program} {w : World} {K : PySem.W.Frag} {mg : Str → Option Value} {base : Heap}
theorem okGX {x qual : Str} {st : Stmt} {f : Addr} {fd : FuncData} {N ps : List Str} {k : Nat} {sp : Sp}
    (F : Fun K x qual st f fd) (S : FnScope N ps (defScope st))
    (ar : ∀ vs H Q E, sp vs H Q E → vs.length = ps.length)
    (bd : ∀ (cdv : Value) (A : Around) (outer : List Env) (s : Shared) (H : Hp) (vs : List V) (Q : VK) (E : XK),
      A.guards = some [] → Room k (A.deeper (envOfC qual (defScope st) s.heap.objs.size f cdv)) → sp vs H Q E →
      ∃ t, PSs (cxOf (L2.CX P w) P w K mg base N qual (defScope st) f cdv A outer s H E) (defBody st) t ∧
        t { nx := fun _ H' => Q .non H', rt := Q } (start N vs) H) :
    FnG P w K mg base (L2.CX P w) (k + 1) f fd ps sp := by
  obtain ⟨oc, od, kV, doc, pm, an, cdv, ct, osl, rfl, lk, cin⟩ := F.ex
  exact fnG_of lk cin S ar fun A outer s H vs Q E hG room prem => bd cdv A outer s H vs Q E hG room prem
theorem DefAt.calX {x : Str} {st : Stmt} {N ps : List Str} {k : Nat} {sp : Sp} (D : DefAt K mg x st ps) (S : FnScope N ps (defScope st))
    (ar : ∀ vs H Q E, sp vs H Q E → vs.length = ps.length)
    (bd : ∀ (f : Addr) (cdv : Value) (A : Around) (outer : List Env) (s : Shared) (H : Hp) (vs : List V) (Q : VK) (E : XK),
      A.guards = some [] → Room k (A.deeper (envOfC x (defScope st) s.heap.objs.size f cdv)) → sp vs H Q E →
      ∃ t, PSs (cxOf (L2.CX P w) P w K mg base N x (defScope st) f cdv A outer s H E) (defBody st) t ∧
        t { nx := fun _ H' => Q .non H', rt := Q } (start N vs) H) : CalX P w K mg base (k + 1) x sp := by
  obtain ⟨f, fd, F, m, b⟩ := D.ex
  exact ⟨f, fd, ps, okGX F S ar (bd f), m, F.kp, b⟩
end
section
variable {X : Cx} {k : Nat} {sp : Sp} {x : Str} {p pos : Pos} {e : Expr} {es : List Expr} {t : TA} {E : L2.St → XK}
theorem enterX {CX : CXT} {f : Addr} {fd : FuncData} {ps : List Str} {pins : List (Addr × Obj)} {σ : L2.St} {H : Hp} {s : Shared} {Q : VK} {us : List Value} {vs : List V} (F : FnG X.prog X.w X.K X.mg X.base CX k f fd ps sp) (hG : X.A.guards = some []) (hr : Room k X.A) (hb : Binds X.K fd ps []) (hx : PassesAt CX X σ (E σ))
    (I : Inv X pins σ H s) (r : Vals vs us) (h : sp vs H Q (E σ)) : wpAny (model X.prog X.w) X.A (call (.ref f) us) (EP X pins σ Q) X.xe s := by
  have hl : us.length = ps.length := r.length ▸ F.arity _ _ _ _ h
  have b := hb s us I.kIn (by rw [List.append_nil]; exact hl)
  rw [List.append_nil] at b
  apply wpAny_call
  apply codeAny_mono (F.go X.A X.stack s H ⟨us, []⟩ us vs Q (E σ) hG hr I.env0 b r h)
  intro r s' hq
  match r, hq with
  | .error e, hq => exact hx pins H s e s' I hq
  | .ok (.ret u), hq => exact I.after hq
  | .ok .next, hq => exact hq.elim
  | .ok .brk, hq => exact hq.elim
  | .ok .cont, hq => exact hq.elim
/-- f(e, ..) of a def that may raise, its promise kept where no repr is under way -/
theorem pe_gx {W : WX} (c : CalX X.prog X.w X.K X.mg X.base k x sp) (hG : X.A.guards = some []) (hr : Room k X.A) (hg : Gl X x) (tk : Takes X W)
    (ha : PA X (e :: es) t) (hdb : (x == ("__debug__" : Str)) = false := by decide)
    (he : starEach (e :: es) X.env = (false, eval e X.env) :: starEach es X.env := by rfl)
    (hpl : (backTo pos (starEach es X.env)).any (·.1) = false := by rfl) :
    PE X (.Call (.Name x p) (e :: es) [] pos) (tCallS sp (WE W) t) := by
  obtain ⟨f, fd, ps, F, m, kp, b⟩ := c.ex
  constructor
  intro pins s σ H Q J prem
  have arg := ha.run pos pins s σ H _ J prem
  apply wpAny_Call_Name_kw
  apply ld_glob J hg m (hd := hdb)
  apply PySem.W.callWith_K (h₀ := X.base) J.ok.mod.kin kp (he := he) (hplain := hpl)
  apply thn arg
  rintro us s1 ⟨vs, H1, J1, rel, q⟩
  exact ⟨J1.kIn, enterX (E := WE W) F hG hr b (passAt tk σ) J1 rel q⟩
/-- the same, where it raises nothing -/
theorem pe_gN (c : CalX X.prog X.w X.K X.mg X.base k x sp) (hG : X.A.guards = some []) (hr : Room k X.A) (hg : Gl X x)
    (ha : PA X (e :: es) t) (hdb : (x == ("__debug__" : Str)) = false := by decide)
    (he : starEach (e :: es) X.env = (false, eval e X.env) :: starEach es X.env := by rfl)
    (hpl : (backTo pos (starEach es X.env)).any (·.1) = false := by rfl) :
    PE X (.Call (.Name x p) (e :: es) [] pos) (tCall sp [] E0 t) := by
  obtain ⟨f, fd, ps, F, m, kp, b⟩ := c.ex
  exact pe_callG F hG hr hg m kp b .nil passL ha hdb he hpl
end
end Gd
set_option maxHeartbeats 1000000
namespace Ky
open PySem PySem.Spec PyProof.Rows L2 Gd Ge PySem.NumText
def topS (i : Nat) : Stmt := PySem.Challenge.pw_makeskept_k04_worths_written_and_read.main.body.getD i (.Pass ⟨0, 0, 0, 0⟩)
abbrev s_is_whole : Stmt := topS 8
abbrev s_is_worth : Stmt := topS 9
abbrev s_worth_text : Stmt := topS 10
abbrev s_read_worth : Stmt := topS 11
abbrev s__is_worth_text : Stmt := topS 12
abbrev s__law_cell : Stmt := topS 14
abbrev s__law_box : Stmt := topS 15
abbrev s__law_take : Stmt := topS 16
abbrev s__law_worth : Stmt := topS 17
abbrev s__law_figures : Stmt := topS 18
abbrev s__law_due : Stmt := topS 19
abbrev s__law_spoilt : Stmt := topS 20
abbrev s__law_read_right : Stmt := topS 21
abbrev s__law_unwritten : Stmt := topS 22
abbrev s_law : Stmt := topS 23
theorem sc_is_whole : FnScope ["thing", "low", "high"] ["thing", "low", "high"] (defScope s_is_whole) := ⟨rfl, rfl, rfl, by decide +kernel, rfl, by decide +kernel, by decide +kernel⟩
theorem sc_is_worth : FnScope ["thing"] ["thing"] (defScope s_is_worth) := ⟨rfl, rfl, rfl, by decide +kernel, rfl, by decide +kernel, by decide +kernel⟩
theorem sc_worth_text : FnScope ["worth"] ["worth"] (defScope s_worth_text) := ⟨rfl, rfl, rfl, by decide +kernel, rfl, by decide +kernel, by decide +kernel⟩
theorem sc_read_worth : FnScope ["text"] ["text"] (defScope s_read_worth) := ⟨rfl, rfl, rfl, by decide +kernel, rfl, by decide +kernel, by decide +kernel⟩
theorem sc__is_worth_text : FnScope ["thing", "figures", "sign"] ["thing"] (defScope s__is_worth_text) := ⟨rfl, rfl, rfl, by decide +kernel, rfl, by decide +kernel, by decide +kernel⟩
theorem sc__law_cell : FnScope ["_law_script", "_law_k"] ["_law_script", "_law_k"] (defScope s__law_cell) := ⟨rfl, rfl, rfl, by decide +kernel, rfl, by decide +kernel, by decide +kernel⟩
theorem sc__law_box : FnScope ["_law_cell_here"] ["_law_cell_here"] (defScope s__law_box) := ⟨rfl, rfl, rfl, by decide +kernel, rfl, by decide +kernel, by decide +kernel⟩
theorem sc__law_take : FnScope ["_law_box_here", "_law_many", "_law_digit", "_law_number"] ["_law_box_here", "_law_many"] (defScope s__law_take) := ⟨rfl, rfl, rfl, by decide +kernel, rfl, by decide +kernel, by decide +kernel⟩
theorem sc__law_worth : FnScope ["_law_box_here", "_law_way"] ["_law_box_here"] (defScope s__law_worth) := ⟨rfl, rfl, rfl, by decide +kernel, rfl, by decide +kernel, by decide +kernel⟩
theorem sc__law_figures : FnScope ["_law_number", "_law_found", "_law_left"] ["_law_number"] (defScope s__law_figures) := ⟨rfl, rfl, rfl, by decide +kernel, rfl, by decide +kernel, by decide +kernel⟩
theorem sc__law_due : FnScope ["_law_thing", "_law_figures_here", "_law_sign", "_law_total"] ["_law_thing"] (defScope s__law_due) := ⟨rfl, rfl, rfl, by decide +kernel, rfl, by decide +kernel, by decide +kernel⟩
theorem sc__law_spoilt : FnScope ["_law_box_here", "_law_text", "_law_signs", "_law_at", "_law_sign", "_law_some"] ["_law_box_here", "_law_text"] (defScope s__law_spoilt) := ⟨rfl, rfl, rfl, by decide +kernel, rfl, by decide +kernel, by decide +kernel⟩
theorem sc__law_read_right : FnScope ["_law_thing", "_law_due_here", "_law_refused", "_law_found", "e"] ["_law_thing"] (defScope s__law_read_right) := ⟨rfl, rfl, rfl, by decide +kernel, rfl, by decide +kernel, by decide +kernel⟩
theorem sc__law_unwritten : FnScope ["_law_thing", "_law_refused", "e"] ["_law_thing"] (defScope s__law_unwritten) := ⟨rfl, rfl, rfl, by decide +kernel, rfl, by decide +kernel, by decide +kernel⟩
theorem sc_law : FnScope ["_law_script", "_law_k", "_law_box_here", "_law_worth_here", "_law_text", "_law_turn", "_law_thing"] ["_law_script"] (defScope s_law) := ⟨rfl, rfl, rfl, by decide +kernel, rfl, by decide +kernel, by decide +kernel⟩
structure Txt (K : PySem.W.Frag) (mg : Str → Option Value) : Prop where
  b_len : mg "len" = none
  b_max : mg "max" = none
  b_min : mg "min" = none
  b_abs : mg "abs" = none
  b_all : mg "all" = none
  b_range : mg "range" = none
  b_repr : mg "repr" = none
  b_isinstance : mg "isinstance" = none
  t_int : mg "int" = none
  t_bool : mg "bool" = none
  t_str : mg "str" = none
  g_MOST_WORTH : GInt mg "MOST_WORTH" (10 ^ 30 - 1)
  g_MOST_FIGURES : GInt mg "MOST_FIGURES" 30
  g_FIGURES : GStr mg "FIGURES" "0123456789"
section
variable {P : Program} {w : World} {K : PySem.W.Frag} {mg : Str → Option Value} {base : Heap}
theorem ok_cell (T : Txt K mg) (D : DefAt K mg "_law_cell" s__law_cell ["_law_script", "_law_k"]) : CalG P w K mg base 1 "_law_cell" (spCell K) := by
  refine D.cal sc__law_cell (fun vs H Q E h => ?_) (fun f cdv A outer s H vs Q E hG hr h => ?_)
  · obtain ⟨a, ns, k, rfl, _⟩ := h
    rfl
  · obtain ⟨a, ns, k, rfl, hS, hl, hk, q⟩ := h
    refine ⟨_, (pss_cons (ps_if (pt_cmpR op_lt (pv 1) (pe_callB call_len (by rfl) T.b_len boot_len_ (pa_cons (pv 0) pa_nil)) (nomark _))
          (pss_one (ps_ret (pe_ix ix_list (pv 0) (pv 1) (fun _ _ => rfl)))) pss_nil)
      (pss_one (ps_ret (pe_op op_add (pe_op op_mul pe_int (pv 1)) pe_int)))), ?_⟩
    refine ⟨_, rfl, _, rfl, _, _, rfl, .inl ⟨_, hS, rfl⟩, _, _, rfl, rfl, _, rfl, ?_⟩
    refine ite2 (fun e => ?_) (fun e => ?_)
    · have e2 := of_decide_eq_true e
      rw [List.length_map] at e2
      obtain ⟨n, hn⟩ := atI_ints hk e2
      exact ⟨_, rfl, _, rfl, _, _, _, _, rfl, rfl, hS, hn, q n⟩
    · exact ⟨_, rfl, _, _, rfl, rfl, .inl ⟨by decide, by decide⟩, _, _, rfl, rfl, q _⟩
theorem ok_box (T : Txt K mg) (D : DefAt K mg "_law_box" s__law_box ["_law_cell_here"]) : CalG P w K mg base 1 "_law_box" spBox := by
  refine D.cal sc__law_box (fun vs H Q E h => ?_) (fun f cdv A outer s H vs Q E hG hr h => ?_)
  · obtain ⟨n, rfl, _⟩ := h
    rfl
  · obtain ⟨n, rfl, q⟩ := h
    refine ⟨_, (pss_one (ps_ret (pe_lst (pa_cons (pe_callB (call_max2 rfl) (by rfl) T.b_max boot_max_ (pa_cons pe_int (pa_cons (pe_op op_sub (pv 0) (pe_op op_pow pe_int pe_int)) pa_nil))) (pa_cons (pe_op op_mod (pv 0) pe_int) (pa_cons pe_int pa_nil)))))), ?_⟩
    refine ⟨_, rfl, _, _, rfl, rfl, ⟨by decide, by decide, by decide⟩, _, _, rfl, rfl, _, _, rfl, ?_⟩
    refine ⟨_, rfl, _, _, rfl, rfl, (by show (0 : Int) < 2147483629; decide), ?_⟩
    refine ⟨(by show 3 ≤ sizeLine; decide), fun l hl => ?_⟩
    refine q l _ hl ⟨_, _, _, ?_, ?_, ?_, upd_same⟩ fun c hc => upd_ne hc
    · split <;> omega
    · exact Int.emod_nonneg _ (by decide)
    · exact Int.emod_lt_of_pos _ (by decide)
theorem ok_take (T : Txt K mg) (D : DefAt K mg "_law_take" s__law_take ["_law_box_here", "_law_many"]) : CalG P w K mg base 1 "_law_take" spTake := by
  refine D.cal sc__law_take (fun vs H Q E h => ?_) (fun f cdv A outer s H vs Q E hG hr h => ?_)
  · obtain ⟨b, m, rfl, _⟩ := h
    rfl
  · obtain ⟨b, m, rfl, hB, hm0, hm1, q⟩ := h
    obtain ⟨x, y, z, hx, hy0, hy1, hb⟩ := hB
    have hS := SqL.of (K := K) hb
    refine ⟨_, (pss_cons (ps_if (pt_cmpR op_gt (pe_ix ix_list (pv 0) pe_int (fun _ _ => rfl)) pe_int (nomark _))
          (pss_cons (ps_set (i := 2) sc__law_take.nd rfl (Or.inl rfl) (pe_op op_mod (pe_ix ix_list (pv 0) pe_int (fun _ _ => rfl)) (pv 1)))
          (pss_cons (ps_asg (pe_op op_fdiv (pe_ix ix_list (pv 0) pe_int (fun _ _ => rfl)) (pv 1)) (pg_sub (pv 0) pe_int set_list))
          (pss_one (ps_ret (pv 2))))) pss_nil)
      (pss_cons (ps_asg (pe_op op_add (pe_ix ix_list (pv 0) pe_int (fun _ _ => rfl)) pe_int) (pg_sub (pv 0) pe_int set_list))
      (pss_cons (ps_set (i := 3) sc__law_take.nd rfl (Or.inl rfl) (pe_op op_mod (pe_op op_mul (pe_op op_add (pe_ix ix_list (pv 0) pe_int (fun _ _ => rfl)) pe_int) (pe_op op_add (pe_op op_mul pe_int (pe_ix ix_list (pv 0) pe_int (fun _ _ => rfl))) pe_int)) pe_int))
      (pss_cons (ps_set (i := 3) sc__law_take.nd rfl (Or.inl rfl) (pe_op op_mod (pe_op op_pow (pv 3) pe_int) pe_int))
      (pss_one (ps_ret (pe_op op_mod (pe_op op_fdiv (pe_op op_mod (pe_op op_pow (pe_op op_add (pv 3) (pe_op op_fdiv (pe_ix ix_list (pv 0) pe_int (fun _ _ => rfl)) pe_int)) pe_int) pe_int) pe_int) (pv 1)))))))), ?_⟩
    refine ⟨_, rfl, _, _, _, _, rfl, rfl, hS, rfl, _, _, rfl, rfl, _, rfl, ?_⟩
    refine ite2 (fun e => ?_) (fun e => ?_)
    · have e2 := of_decide_eq_true e
      refine ⟨_, rfl, _, _, _, _, rfl, rfl, hS, rfl, _, rfl, _, _, rfl, rfl, hm0, ?_⟩
      refine ⟨_, rfl, _, _, _, _, rfl, rfl, hS, rfl, _, rfl, _, _, rfl, rfl, ⟨hm0, by omega⟩, ?_⟩
      refine ⟨_, rfl, _, _, _, _, rfl, rfl, hb, rfl, ?_⟩
      refine ⟨_, rfl, ?_⟩
      refine q _ _ (Int.emod_nonneg _ (by omega)) (Int.emod_lt_of_pos _ hm0) ⟨_, _, _, ?_, hy0, hy1, upd_same⟩ fun c hc => upd_ne hc
      exact Int.ediv_nonneg (by omega) (by omega)
    · refine ⟨_, rfl, _, _, _, _, rfl, rfl, hS, rfl, _, _, rfl, rfl, ?_⟩
      refine ⟨_, rfl, _, _, _, _, rfl, rfl, hb, rfl, ?_⟩
      have hb1 : (upd H b (.lst [.int x, .int y, .int (z + 1)])) b = some (.lst [.int x, .int y, .int (z + 1)]) := upd_same
      have hS1 := SqL.of (K := K) hb1
      refine ⟨_, rfl, _, _, _, _, rfl, rfl, hS1, rfl, _, _, rfl, rfl, ?_⟩
      refine ⟨_, rfl, _, _, _, _, rfl, rfl, hS1, rfl, _, _, rfl, rfl, .inl ⟨by decide, by decide⟩, _, _, rfl, rfl, ?_⟩
      refine ⟨_, _, rfl, rfl, .inl ⟨by omega, by omega⟩, _, _, rfl, rfl, (by show (0 : Int) < 2147483647; decide), ?_⟩
      generalize hA : (y + 31337) * (2 * (z + 1) + 1) % 2147483647 = A
      have a0 : 0 ≤ A := hA ▸ Int.emod_nonneg _ (by decide)
      have a1 : A < 2147483647 := hA ▸ Int.emod_lt_of_pos _ (by decide)
      clear hA
      refine ⟨_, rfl, _, _, rfl, rfl, ⟨by decide, by decide, by omega⟩, _, _, rfl, rfl, (by show (0 : Int) < 2147483629; decide), ?_⟩
      show _
      generalize hB : A ^ (5 : Int).toNat % 2147483629 = B
      have b0 : 0 ≤ B := hB ▸ Int.emod_nonneg _ (by decide)
      have b1 : B < 2147483629 := hB ▸ Int.emod_lt_of_pos _ (by decide)
      clear hB
      refine ⟨_, rfl, _, rfl, _, _, _, _, rfl, rfl, hS1, rfl, _, _, rfl, rfl, ⟨by decide, by decide⟩, _, _, rfl, rfl, ?_⟩
      have c0 : 0 ≤ y / 65536 := Int.ediv_nonneg hy0 (by decide)
      have c1 : y / 65536 < 65536 := by omega
      refine ⟨_, _, rfl, rfl, ⟨by decide, by decide, by omega⟩, _, _, rfl, rfl, (by show (0 : Int) < 2147483587; decide), ?_⟩
      refine ⟨_, _, rfl, rfl, ⟨by decide, by decide⟩, ?_⟩
      refine ⟨_, rfl, _, _, rfl, rfl, hm0, ?_⟩
      exact q _ _ (Int.emod_nonneg _ (by omega)) (Int.emod_lt_of_pos _ hm0) ⟨_, _, _, hx, hy0, hy1, upd_same⟩ fun c hc => upd_ne hc
/-! ### whole numbers and worths -/
def wholeD (d : PyData) (lo hi : Int) : Bool := match d with
  | .int n => decide (lo ≤ n) && decide (n ≤ hi)
  | _ => false
def top30 : Int := 10 ^ 30 - 1
def worthD (d : PyData) : Bool := wholeD d (-top30) top30
theorem d1Int {H : Hp} {v : V} {n : Int} (h : D1 K H v (.int n)) : v = .int n := by
  cases h with
  | dp h =>
    cases h
    rfl
theorem d1Bool {H : Hp} {v : V} {b : Bool} (h : D1 K H v (.bool b)) : v = .bl b := by
  cases h with
  | dp h =>
    cases h
    rfl
def spWhole (K : PySem.W.Frag) : Sp := fun vs H Q _ => ∃ (v : V) (d : PyData) (lo hi : Int), vs = [v, .int lo, .int hi] ∧ D1 K H v d ∧ Q (.bl (wholeD d lo hi)) H
theorem chain_end {lo n hi : Int} {Q : VK} {H : Hp} (q : Q (.bl (wholeD (.int n) lo hi)) H) :
    (if decide (lo ≤ n) = true then Q (.bl (decide (n ≤ hi))) H else Q (.bl false) H) := by
  have e : wholeD (.int n) lo hi = (decide (lo ≤ n) && decide (n ≤ hi)) := rfl
  rw [e] at q
  by_cases hl : lo ≤ n
  · rw [decide_eq_true hl] at q ⊢
    exact iteT q
  · rw [decide_eq_false hl] at q ⊢
    exact iteF q
theorem ok_whole (T : Txt K mg) (D : DefAt K mg "is_whole" s_is_whole ["thing", "low", "high"]) : CalG P w K mg base 1 "is_whole" (spWhole K) := by
  refine D.cal sc_is_whole (fun vs H Q E h => ?_) (fun f cdv A outer s H vs Q E hG hr h => ?_)
  · obtain ⟨v, d, lo, hi, rfl, _⟩ := h
    rfl
  · obtain ⟨v, d, lo, hi, rfl, hd, q⟩ := h
    have ty := tyD hd
    refine ⟨_, (pss_one (ps_ret (pe_and (pe_callB call_isi (by rfl) T.b_isinstance boot_isinstance_ (pa_cons (pv 0) (pa_cons (pe_bltn (v := .ty "int") (by rfl) T.t_int boot_int_ rfl) pa_nil))) (pe_and (pe_not (pe_callB call_isi (by rfl) T.b_isinstance boot_isinstance_ (pa_cons (pv 0) (pa_cons (pe_bltn (v := .ty "bool") (by rfl) T.t_bool boot_bool_ rfl) pa_nil)))) (pe_one (pe_chain op_le op_le (pv 1) (pv 0) (pv 2))))))), ?_⟩
    refine ⟨_, rfl, v, .ty "int", _, .type "int", _, rfl, .ty _, ty, kInt d, _, rfl, ?_⟩
    cases d with
    | int n =>
      cases d1Int hd
      refine iteT ?_
      refine ⟨_, rfl, _, .ty "bool", _, .type "bool", _, rfl, .ty _, ty, kBool _, _, rfl, _, rfl, ?_⟩
      refine iteT ?_
      refine ⟨_, rfl, _, rfl, _, _, rfl, rfl, _, rfl, ?_⟩
      have z := chain_end (Q := Q) q
      split
      · rename_i hl
        rw [if_pos hl] at z
        exact ⟨_, rfl, _, _, rfl, rfl, z⟩
      · rename_i hl
        rw [if_neg hl] at z
        exact z
    | bool x =>
      refine iteT ?_
      refine ⟨_, rfl, _, .ty "bool", _, .type "bool", _, rfl, .ty _, ty, kBool _, _, rfl, _, rfl, ?_⟩
      exact iteF q
    | none => exact iteF q
    | str x => exact iteF q
    | list x => exact iteF q
    | tuple x => exact iteF q
    | dict x => exact iteF q
def spWorth (K : PySem.W.Frag) : Sp := fun vs H Q _ => ∃ (v : V) (d : PyData), vs = [v] ∧ D1 K H v d ∧ Q (.bl (worthD d)) H
theorem ok_worth (T : Txt K mg) (c_is_whole : CalG P w K mg base 1 "is_whole" (spWhole K)) (D : DefAt K mg "is_worth" s_is_worth ["thing"]) : CalG P w K mg base 2 "is_worth" (spWorth K) := by
  refine D.cal sc_is_worth (fun vs H Q E h => ?_) (fun f cdv A outer s H vs Q E hG hr h => ?_)
  · obtain ⟨v, d, rfl, _⟩ := h
    rfl
  · obtain ⟨v, d, rfl, hd, q⟩ := h
    refine ⟨_, (pss_one (ps_ret (pe_g c_is_whole hG (hr.mono (by decide)) (by rfl) (pa_cons (pv 0) (pa_cons (pe_un un_neg (pe_gi rfl T.g_MOST_WORTH)) (pa_cons (pe_gi rfl T.g_MOST_WORTH) pa_nil)))))), ?_⟩
    exact ⟨_, rfl, _, rfl, v, d, _, _, rfl, hd, q⟩

/-! ### texts by their signs -/
def figs (cs : List Nat) : List Nat := if cs.head? = some 45 then cs.tail else cs
def isFig (c : Nat) : Bool := decide (48 ≤ c ∧ c ≤ 57)
def okText (cs : List Nat) : Bool := decide (1 ≤ (figs cs).length) && decide ((figs cs).length ≤ 30) && (figs cs).all isFig && (!decide ((figs cs).head? = some 48) || decide (cs = [48]))
def valText (cs : List Nat) : Int := if cs.head? = some 45 then -((digitsVal (figs cs) : Nat) : Int) else ((digitsVal (figs cs) : Nat) : Int)
def worthOf (d : PyData) : Option Int := match d with
  | .str z => if okText z.cps.toList = true then some (valText z.cps.toList) else none
  | _ => none
theorem starts_minus (z : Str) : Txt.startswith z "-" = decide (z.cps.toList.head? = some 45) := by
  obtain ⟨⟨cs⟩⟩ := z
  cases cs with
  | nil => rfl
  | cons c r =>
    show (decide (0 + 1 ≤ (c :: r).length) && ((c :: r).toArray.extract 0 (0 + 1) == #[45])) = _
    rw [decide_eq_true (show 0 + 1 ≤ (c :: r).length by rw [List.length_cons]; omega), Bool.true_and]
    refine Bool.eq_iff_iff.mpr ?_
    rw [beq_iff_eq, decide_eq_true_iff]
    constructor
    · intro h
      have := congrArg Array.toList h
      simpa using this
    · intro h
      apply Array.ext'
      simpa using h
theorem cut_tail (z : Str) : (cutS z (some 1) none).cps.toList = z.cps.toList.tail := by
  unfold cutS
  rw [show HT.sIx z.length 0 (some 1) = min 1 z.length from HT.sIx_nat z.length 0 1, HT.sIx_none]
  have e : z.length = z.cps.toList.length := by simp [Str.length]
  rw [e]
  generalize z.cps.toList = cs
  cases cs with
  | nil => rfl
  | cons c r =>
    rw [show min 1 (c :: r).length = 1 by rw [List.length_cons]; omega]
    show (List.take ((c :: r).length - 1) r) = r
    rw [List.length_cons, Nat.add_sub_cancel]
    exact List.take_length
theorem len_list (z : Str) : z.length = z.cps.toList.length := by
  obtain ⟨⟨cs⟩⟩ := z
  rfl
theorem allFig {cs : List Nat} (h : cs.all isFig = true) : AllDigits cs := fun c hc => by
  have := List.all_eq_true.mp h c hc
  exact of_decide_eq_true this
theorem read_val {z : Str} (h : okText z.cps.toList = true) : PySem.intText? z = some (valText z.cps.toList) ∧ z.length ≤ 640 := by
  unfold okText at h
  simp only [Bool.and_eq_true, decide_eq_true_eq] at h
  obtain ⟨⟨⟨h1, h2⟩, h3⟩, _⟩ := h
  have e := len_list z
  have had := allFig h3
  unfold valText
  by_cases hn : z.cps.toList.head? = some 45
  · rw [if_pos hn]
    unfold figs at *
    rw [if_pos hn] at *
    cases hz : z.cps.toList with
    | nil => rw [hz] at hn; cases hn
    | cons c r =>
      rw [hz] at hn h1 h2 had e
      have hc : c = 45 := by simpa using hn
      subst hc
      have hl : z.length = r.length + 1 := by rw [e, List.length_cons]
      have h1' : 1 ≤ r.length := h1
      have h2' : r.length ≤ 30 := h2
      have hl2 : z.length ≤ 640 := by omega
      refine ⟨intText_neg hz had ?_ (Nat.le_trans hl2 (by decide)), hl2⟩
      intro q
      have q' : r = [] := q
      rw [q'] at h1'
      simp at h1'
  · rw [if_neg hn]
    unfold figs at *
    rw [if_neg hn] at *
    have hl2 : z.length ≤ 640 := by omega
    refine ⟨intText_digits had ?_ (Nat.le_trans hl2 (by decide)), hl2⟩
    intro q
    rw [q] at h1
    simp at h1
end
end Ky
set_option maxHeartbeats 1000000
namespace Ky
open PySem PySem.Spec PyProof.Rows L2 Gd Ge PySem.NumText
structure Errs (P : Program) (K : PySem.W.Frag) (mg : Str → Option Value) (CN fN CW fW CM : Addr) : Prop where
  e_NoNumber : ErrTxt P K CN fN "NoNumber.__init__" "this is no such number"
  e_NoWorth : ErrTxt P K CW fW "NoWorth.__init__" "this is no worth"
  i_NoNumber : IsTxt K CN
  i_NoWorth : IsTxt K CW
  g_NoNumber : mg "NoNumber" = some (.ref CN)
  g_NoWorth : mg "NoWorth" = some (.ref CW)
  g_MakesError : mg "MakesError" = some (.ref CM)
  k_NoNumber : PySem.W.kitOne K (.ref CN) (.ref CN) = some true
  k_NoWorth : PySem.W.kitOne K (.ref CW) (.ref CW) = some true
  m_NoNumber : PySem.W.exmOne K (.ref CN) (.ref CM) = some true
  m_NoWorth : PySem.W.exmOne K (.ref CW) (.ref CM) = some true
section
variable {P : Program} {w : World} {K : PySem.W.Frag} {mg : Str → Option Value} {base : Heap} {CN fN CW fW CM : Addr}
def isT (d : PyData) : Bool := match d with
  | .str z => okText z.cps.toList
  | _ => false
theorem d1Str {H : Hp} {v : V} {z : Str} (h : D1 K H v (.str z)) : v = .str z := by
  cases h with
  | dp h =>
    cases h
    rfl
def spIsT (K : PySem.W.Frag) : Sp := fun vs H Q _ => ∃ (v : V) (d : PyData), vs = [v] ∧ D1 K H v d ∧ (∀ z, d = .str z → z.length ≤ 1000) ∧ ∀ H', Same H H' → Q (.bl (isT d)) H'
theorem isT_other {d : PyData} (h : isStrD d = false) : isT d = false := by
  cases d <;> first | rfl | cases h
theorem pickStr {σ : L2.St} {H : Hp} {R : V → Hp → Prop} {z : Str} {b : Bool} (h0 : σ[0]? = some (some (.str z))) (hz : z.length ≤ 1000) (hb : b = decide (z.cps.toList.head? = some 45))
    (key : ∀ y : Str, y.cps.toList = figs z.cps.toList → R (.str y) H) : if b = true then tSl rSlS (tVar 0) (tPart (tC (.int 1))) tNoPart σ H R else tVar 0 σ H R := by
  subst hb
  by_cases hm : z.cps.toList.head? = some 45
  · rw [decide_eq_true hm]
    refine iteT ⟨_, h0, _, rfl, _, rfl, Nat.le_trans hz (by decide), key _ ?_⟩
    rw [cut_tail]
    exact (if_pos hm).symm
  · rw [decide_eq_false hm]
    refine iteF ⟨_, h0, key _ ?_⟩
    exact (if_neg hm).symm
theorem take_sign {y : Str} {i c : Nat} (h : y.cps[i]? = some c) : (y.cps.toList.take (i + 1)).map (fun c => V.bl (isFig c)) = (y.cps.toList.take i).map (fun c => V.bl (isFig c)) ++ [V.bl (isFig c)] := by
  have h' : y.cps.toList[i]? = some c := by rw [Array.getElem?_toList]; exact h
  rw [List.take_add_one, h', List.map_append]
  rfl
theorem take_all {y : Str} : y.cps.toList.take y.cps.size = y.cps.toList := by
  rw [← Array.length_toList]
  exact List.take_length
theorem maps_sign {cs : List Nat} : cs.map (fun c => V.bl (isFig c)) = (cs.map isFig).map V.bl := by
  rw [List.map_map]
  rfl
theorem figs_list : (Str.ofString "0123456789").cps.toList = [48, 49, 50, 51, 52, 53, 54, 55, 56, 57] := by decide +kernel
theorem in_figs {c : Nat} : decide (c ∈ (Str.ofString "0123456789").cps.toList) = isFig c := by
  rw [figs_list]
  unfold isFig
  refine decide_eq_decide.mpr ?_
  simp only [List.mem_cons, List.not_mem_nil, or_false]
  omega
theorem figs_len (cs : List Nat) : (figs cs).length ≤ cs.length := by
  unfold figs
  split
  · rw [List.length_tail]
    omega
  · exact Nat.le_refl _
theorem atI_zero {c : Nat} {r : List Nat} : atI (c :: r) 0 = some c := by
  have e : ixN (r.length + 1) 0 = some 0 := by
    unfold ixN
    rw [if_pos (Int.le_refl 0)]
    exact if_pos (by omega)
  show ((ixN (r.length + 1) 0).bind fun j => (c :: r)[j]?) = some c
  rw [e]
  rfl
theorem str_ext {x y : Str} (h : x.cps.toList = y.cps.toList) : x = y := by
  obtain ⟨⟨a⟩⟩ := x
  obtain ⟨⟨b⟩⟩ := y
  cases (show a = b from h)
  rfl
theorem str_eq {x y : Str} : decide (V.str x = V.str y) = decide (x.cps.toList = y.cps.toList) := by
  refine decide_eq_decide.mpr ⟨fun h => ?_, fun h => ?_⟩
  · cases h
    rfl
  · rw [str_ext h]
theorem sign_eq {c : Nat} : decide (V.str ⟨#[c]⟩ = V.str (Str.ofString "0")) = decide (c = 48) := by
  rw [str_eq]
  refine decide_eq_decide.mpr ?_
  have e : (Str.ofString "0").cps.toList = [48] := by decide +kernel
  rw [e]
  simp
theorem str_zero {z : Str} : decide (V.str z = V.str (Str.ofString "0")) = decide (z.cps.toList = [48]) := by
  rw [str_eq]
  have e : (Str.ofString "0").cps.toList = [48] := by decide +kernel
  rw [e]
theorem ok_is_worth_text (T : Txt K mg) (D : DefAt K mg "_is_worth_text" s__is_worth_text ["thing"]) : CalG P w K mg base 1 "_is_worth_text" (spIsT K) := by
  refine D.cal sc__is_worth_text (fun vs H Q E h => ?_) (fun f cdv A outer s H vs Q E hG hr h => ?_)
  · obtain ⟨v, d, rfl, _⟩ := h
    rfl
  · obtain ⟨v, d, rfl, hd, hlen, q⟩ := h
    refine ⟨_, (pss_cons (ps_if (pt_not (pt_val (pe_callB call_isi (by rfl) T.b_isinstance boot_isinstance_ (pa_cons (pv 0) (pa_cons (pe_bltn (v := .ty "str") (by rfl) T.t_str boot_str_ rfl) pa_nil)))))
          (pss_one (ps_ret pe_bl)) pss_nil)
      (pss_cons (ps_set (i := 1) sc__is_worth_text.nd rfl (Or.inl rfl) (pe_ifExp (pt_val (pe_m1 F.slot_str_startswith F.type_str_startswith mt_startswith (pv 0) pe_str)) (pe_slice sl_str (pv 0) (po_some pe_int) po_none) (pv 0)))
      (pss_cons (ps_if (pt_not (pt_chain op_le op_le pe_int (pe_callB call_len (by rfl) T.b_len boot_len_ (pa_cons (pv 1) pa_nil)) (pe_gi rfl T.g_MOST_FIGURES)))
          (pss_one (ps_ret pe_bl)) pss_nil)
      (pss_cons (ps_if (pt_not (pt_val (pe_callB (cr_all rfl) (by rfl) T.b_all boot_all_ (pa_cons (pe_lc (own := [("sign", 2)]) (g := gName 2) (tt := tYes) rfl sc__is_worth_text.nd (pi_str (pv 1)) (blkOk_by (own := [("sign", 2)]) (N := ["thing", "figures", "sign"]) (sc := defScope s__is_worth_text) (by decide +kernel)) (fun _ _ _ _ _ => pg_name (i := 2) sc__is_worth_text.nd rfl (Or.inl rfl)) (fun _ _ _ _ _ => pts_nil) (fun _ _ _ _ _ => (pe_cmpR op_in_sign (pv 2) (pe_gs rfl T.g_FIGURES) (by rfl)))) pa_nil))))
          (pss_one (ps_ret pe_bl)) pss_nil)
      (pss_one (ps_ret (pe_or (pe_cmpR op_ne (pe_ix ix_str (pv 1) pe_int (fun _ _ => rfl)) pe_str (nomark _)) (pe_one (pe_cmpR op_eq (pv 0) pe_str (nomark _)))))))))), ?_⟩
    refine ⟨_, rfl, v, .ty "str", _, .type "str", _, rfl, .ty _, tyD hd, kStr d, _, rfl, ?_⟩
    cases hs : isStrD d with
    | false =>
      have z := q _ (fun _ _ z => z)
      rw [isT_other hs] at z
      exact iteT z
    | true =>
      cases d with
      | str z =>
        cases d1Str hd
        have hz := hlen z rfl
        refine iteF ?_
        have q : ∀ H', Same H H' → Q (.bl (okText z.cps.toList)) H' := q
        refine ⟨_, rfl, ⟨_, rfl⟩, _, _, rfl, rfl, _, rfl, ?_⟩
        refine pickStr rfl hz (starts_minus z) fun y hy => ?_
        have ly : y.length = (figs z.cps.toList).length := by rw [← hy]; exact len_list y
        have hq : okText z.cps.toList = (decide (1 ≤ y.length) && decide (y.length ≤ 30) && y.cps.toList.all isFig && (!decide (y.cps.toList.head? = some 48) || decide (z.cps.toList = [48]))) := by
          rw [ly, hy]
          rfl
        rw [hq] at q
        have ly2 : y.length ≤ 1000 := by
          have e2 := figs_len z.cps.toList
          rw [← len_list z] at e2
          omega
        clear hq ly hy
        refine ⟨_, rfl, .str y, y.length, rfl, ⟨Nat.le_trans ly2 (by decide), rfl⟩, _, _, rfl, rfl, _, rfl, ?_⟩
        by_cases h1 : 1 ≤ y.length
        · have d1 : decide ((1 : Int) ≤ (y.length : Nat)) = true := decide_eq_true (by omega)
          rw [if_pos d1]
          refine ⟨_, _, rfl, rfl, _, rfl, ?_⟩
          rw [decide_eq_true h1, Bool.true_and] at q
          by_cases h2 : y.length ≤ 30
          · have d2 : decide (((y.length : Nat) : Int) ≤ 30) = true := decide_eq_true (by omega)
            rw [d2]
            rw [decide_eq_true h2, Bool.true_and] at q
            refine iteF ?_
            refine ⟨_, rfl, y, rfl, fun D hD => ?_⟩
            refine lc_it walk_str (fun i H' => Same H H' ∧ H' D = some (.lst ((y.cps.toList.take i).map fun c => V.bl (isFig c)))) ⟨same_new hD, upd_same⟩ (fun _ _ _ _ => trivial) (fun i x H1 H' hi hP hY => ?_) (fun H' hP => ?_)
            · obtain ⟨rfl, c, hc, rfl⟩ := hY
              refine ⟨rfl, ?_⟩
              refine ⟨_, rfl, _, _, rfl, rfl, _, hP.2, ?_, ?_, ?_⟩
              · rw [List.length_map, List.length_take]
                exact Nat.lt_of_le_of_lt (Nat.min_le_right _ _) (small1000 (by rw [← len_list]; omega))
              · intro c o hc
                rw [upd_ne (ne_of_none hc hD)]
                exact hP.1 c o hc
              · rw [upd_same, take_sign hc, in_figs]
            · have hD2 := hP.2
              rw [take_all, maps_sign] at hD2
              refine ⟨D, y.cps.toList.map isFig, rfl, SqL.of hD2, ?_⟩
              have e : (y.cps.toList.map isFig).all id = y.cps.toList.all isFig := by
                rw [List.all_map]
                rfl
              rw [e]
              have q1 := q _ hP.1
              cases ha : y.cps.toList.all isFig with
              | false =>
                rw [ha] at q1
                exact ⟨_, rfl, iteT q1⟩
              | true =>
                rw [ha, Bool.true_and] at q1
                refine ⟨_, rfl, iteF ?_⟩
                have hne : y.cps.toList ≠ [] := fun e0 => by
                  rw [len_list y, e0] at h1
                  exact absurd h1 (by decide)
                obtain ⟨c, r, hcr⟩ := List.exists_cons_of_ne_nil hne
                refine ⟨_, rfl, y, 0, c, rfl, rfl, Nat.le_trans ly2 (by decide), (by rw [hcr]; exact atI_zero), rfl, _, rfl, ?_⟩
                rw [sign_eq]
                rw [hcr] at q1
                show if (!decide (c = 48)) = true then _ else _
                have hh : decide ((c :: r).head? = some 48) = decide (c = 48) := by
                  refine decide_eq_decide.mpr ?_
                  simp
                rw [hh] at q1
                cases hd48 : decide (c = 48) with
                | false =>
                  rw [hd48] at q1
                  exact q1
                | true =>
                  rw [hd48] at q1
                  refine iteF ⟨_, rfl, rfl, ?_⟩
                  rw [str_zero]
                  exact q1
          · have d2 : decide (((y.length : Nat) : Int) ≤ 30) = false := decide_eq_false (by omega)
            rw [d2]
            refine iteT ?_
            have z := q _ (fun _ _ z => z)
            rw [decide_eq_false h2, Bool.false_and, Bool.false_and] at z
            exact z
        · have d1 : ¬ decide ((1 : Int) ≤ (y.length : Nat)) = true := fun z => h1 (by have := of_decide_eq_true z; omega)
          rw [if_neg d1]
          refine ⟨_, rfl, iteT ?_⟩
          have z := q _ (fun _ _ z => z)
          rw [decide_eq_false h1, Bool.false_and, Bool.false_and, Bool.false_and] at z
          exact z
      | _ => cases hs
theorem worth_not {d : PyData} (h : isT d = false) : worthOf d = none := by
  cases d with
  | str z => exact if_neg (by rw [show okText z.cps.toList = false from h]; decide)
  | _ => rfl
/-- what reads a text: the worth, or NoNumber of the very thing -/
def spRead (K : PySem.W.Frag) (CN : Addr) : Sp := fun vs H Q E => ∃ (v : V) (d : PyData), vs = [v] ∧ D1 K H v d ∧ (∀ z, d = .str z → z.length ≤ 1000) ∧ ∀ H', Same H H' →
  (∀ n, worthOf d = some n → Q (.int n) H') ∧ (worthOf d = none → ∀ a, H' a = none → E (.ref CN) (some a) (upd H' a (.xd [("found", v)])))
theorem ok_read (T : Txt K mg) (R : Errs P K mg CN fN CW fW CM) (c__is_worth_text : CalG P w K mg base 1 "_is_worth_text" (spIsT K)) (D : DefAt K mg "read_worth" s_read_worth ["text"]) : CalX P w K mg base 3 "read_worth" (spRead K CN) := by
  refine D.calX sc_read_worth (fun vs H Q E h => ?_) (fun f cdv A outer s H vs Q E hG hr h => ?_)
  · obtain ⟨v, d, rfl, _⟩ := h
    rfl
  · obtain ⟨v, d, rfl, hd, hlen, q⟩ := h
    refine ⟨_, (pss_cons (ps_if (pt_not (pt_val (pe_g c__is_worth_text hG (hr.mono (by decide)) (by rfl) (pa_cons (pv 0) pa_nil))))
          (pss_one (ps_raiseE rfl R.e_NoNumber R.g_NoNumber hr (takes_of rfl rfl rfl rfl) (by exact (pa_cons (pv 0) pa_nil)) (by rfl))) pss_nil)
      (pss_one (ps_ret (pe_callTy call_int_str (by rfl) T.t_int boot_int_ (pa_cons (pv 0) pa_nil))))), ?_⟩
    refine ⟨_, rfl, v, d, rfl, hd, hlen, fun H' sm => ?_⟩
    obtain ⟨q1, q2⟩ := q H' sm
    cases ht : isT d with
    | false =>
      refine ⟨_, rfl, iteT ?_⟩
      exact ⟨_, rfl, v, rfl, fun a ha => q2 (worth_not ht) a ha⟩
    | true =>
      refine ⟨_, rfl, iteF ?_⟩
      cases d with
      | str z =>
        cases d1Str hd
        have r := read_val ht
        exact ⟨_, rfl, z, _, rfl, r.1, r.2, q1 _ (if_pos ht)⟩
      | _ => cases ht
/-- what writes a worth: its text, or NoWorth of the very thing -/
def spText (K : PySem.W.Frag) (CW : Addr) : Sp := fun vs H Q E => ∃ (v : V) (d : PyData), vs = [v] ∧ D1 K H v d ∧
  (∀ n, d = .int n → worthD d = true → Q (.str (toString n)) H) ∧ (worthD d = false → ∀ a, H a = none → E (.ref CW) (some a) (upd H a (.xd [("found", v)])))
theorem worth_log {n : Int} (h : worthD (.int n) = true) : n.natAbs.log2 < 1920 := by
  have h2 : (decide (-top30 ≤ n) && decide (n ≤ top30)) = true := h
  rw [Bool.and_eq_true, decide_eq_true_eq, decide_eq_true_eq] at h2
  refine big_log ?_
  unfold Big
  unfold top30 at h2
  omega
theorem ok_text (T : Txt K mg) (R : Errs P K mg CN fN CW fW CM) (c_is_worth : CalG P w K mg base 2 "is_worth" (spWorth K)) (D : DefAt K mg "worth_text" s_worth_text ["worth"]) : CalX P w K mg base 3 "worth_text" (spText K CW) := by
  refine D.calX sc_worth_text (fun vs H Q E h => ?_) (fun f cdv A outer s H vs Q E hG hr h => ?_)
  · obtain ⟨v, d, rfl, _⟩ := h
    rfl
  · obtain ⟨v, d, rfl, hd, q1, q2⟩ := h
    refine ⟨_, (pss_cons (ps_if (pt_not (pt_val (pe_g c_is_worth hG (hr.mono (by decide)) (by rfl) (pa_cons (pv 0) pa_nil))))
          (pss_one (ps_raiseE rfl R.e_NoWorth R.g_NoWorth hr (takes_of rfl rfl rfl rfl) (by exact (pa_cons (pv 0) pa_nil)) (by rfl))) pss_nil)
      (pss_one (ps_ret (pe_callTy call_str_int (by rfl) T.t_str boot_str_ (pa_cons (pv 0) pa_nil))))), ?_⟩
    refine ⟨_, rfl, v, d, rfl, hd, ?_⟩
    cases ht : worthD d with
    | false =>
      refine ⟨_, rfl, iteT ?_⟩
      exact ⟨_, rfl, v, rfl, fun a ha => q2 ht a ha⟩
    | true =>
      refine ⟨_, rfl, iteF ?_⟩
      cases d with
      | int n =>
        cases d1Int hd
        exact ⟨_, rfl, n, rfl, worth_log ht, q1 n rfl ht⟩
      | _ => cases ht
end
end Ky
set_option maxHeartbeats 1000000
namespace Ky
open PySem PySem.Spec PyProof.Rows L2 Gd Ge PySem.NumText TL
def repS (z : Str) (k : Int) : Str := ⟨(List.replicate k.toNat z.cps).foldl (· ++ ·) #[]⟩
theorem repS_one {z : Str} : repS z 1 = z := by
  unfold repS
  show (⟨#[] ++ z.cps⟩ : Str) = z
  rw [Array.empty_append]
theorem op_mulS {X : Cx} : OpR X (binaryOp .Mult) (fun x y H Q => ∃ z k, x = .str z ∧ y = .int k ∧ 0 ≤ k ∧ k ≤ 1000 ∧ z.length ≤ 1000 ∧ 1 ≤ z.length ∧ (repS z k).length ≤ sizeLine ∧ Q (.str (repS z k)) H) := by
  intro pins s σ H x y v u Q I rx ry h
  obtain ⟨z, k, rfl, rfl, k0, k1, z1, z2, zl, q⟩ := h
  obtain ⟨t, rfl⟩ := rx
  obtain ⟨t', rfl⟩ := ry
  have le : z.length * k.toNat ≤ 1000 * 1000 := Nat.mul_le_mul z1 (by omega)
  refine P.mul_str ?_ (fun h1 _ => ?_) (fun h1 _ => ?_) ?_
  · rw [decide_eq_false (by omega), decide_eq_false (by omega)]
    rfl
  · have hk : (z.length : Int) * k ≤ 2 ^ 63 - 1 := by
      have e : ((z.length * k.toNat : Nat) : Int) = (z.length : Int) * k := by
        rw [Int.natCast_mul]
        rw [Int.toNat_of_nonneg k0]
      rw [← e]
      omega
    have := Int.le_ediv_of_mul_le (by omega) hk
    omega
  · refine decide_eq_false ?_
    have : (1000 * 1000 : Nat) ≤ sizeLine := by decide
    omega
  · by_cases h1 : k < 1
    · rw [if_pos h1]
      have e : k = 0 := by omega
      subst e
      exact ⟨by decide, ⟨.str (repS z 0), H, I.tok _, ⟨_, rfl⟩, q⟩⟩
    · rw [if_neg h1]
      by_cases h2 : (k == 1 || z.length == 0) = true
      · rw [if_pos h2]
        have e : k = 1 := by
          rw [Bool.or_eq_true, beq_iff_eq, beq_iff_eq] at h2
          omega
        subst e
        rw [repS_one] at q
        exact ⟨.str z, H, I, ⟨t, rfl⟩, q⟩
      · rw [if_neg h2]
        exact ⟨zl, ⟨.str (repS z k), H, I.tok _, ⟨_, rfl⟩, q⟩⟩
section
variable {P : Program} {w : World} {K : PySem.W.Frag} {mg : Str → Option Value} {base : Heap} {CN fN CW fW CM : Addr}
def Wn (n : Int) : Prop := -top30 ≤ n ∧ n ≤ top30
theorem wn_worth {n : Int} (h : Wn n) : worthD (.int n) = true := by
  show (decide (-top30 ≤ n) && decide (n ≤ top30)) = true
  rw [decide_eq_true h.1, decide_eq_true h.2]
  rfl
def spNum : Sp := fun vs H Q _ => ∃ b : Addr, vs = [.ref b] ∧ BoxAt H b ∧ ∀ (n : Int) (H' : Hp), Wn n → BoxAt H' b → Kp b H H' → Q (.int n) H'
theorem ok_num (c__law_take : CalG P w K mg base 1 "_law_take" spTake) (D : DefAt K mg "_law_worth" s__law_worth ["_law_box_here"]) :
    CalG P w K mg base 2 "_law_worth" spNum := by
  refine D.cal sc__law_worth (fun vs H Q E h => ?_) (fun f cdv A outer s H vs Q E hG hr h => ?_)
  · obtain ⟨b, rfl, _⟩ := h
    rfl
  · obtain ⟨b, rfl, hB, q⟩ := h
    refine ⟨_, (pss_cons (ps_set (i := 1) sc__law_worth.nd rfl (Or.inl rfl) (pe_g c__law_take hG (hr.mono (by decide)) (by rfl) (pa_cons (pv 0) (pa_cons pe_int pa_nil))))
      (pss_cons (ps_if (pt_cmpR op_eq (pv 1) pe_int (nomark _))
          (pss_one (ps_ret (pe_ix ix_list (pe_lst (pa_cons (pe_op op_sub (pe_op op_pow pe_int pe_int) pe_int) (pa_cons (pe_op op_sub pe_int (pe_op op_pow pe_int pe_int)) (pa_cons pe_int (pa_cons (pe_op op_pow pe_int pe_int) (pa_cons (pe_un un_neg pe_int) (pa_cons pe_int pa_nil))))))) (pe_g c__law_take hG (hr.mono (by decide)) (by rfl) (pa_cons (pv 0) (pa_cons pe_int pa_nil))) (fun _ _ => rfl)))) pss_nil)
      (pss_cons (ps_if (pt_cmpR op_eq (pv 1) pe_int (nomark _))
          (pss_one (ps_ret (pe_op op_mul (pe_op op_add (pe_op op_mul (pe_g c__law_take hG (hr.mono (by decide)) (by rfl) (pa_cons (pv 0) (pa_cons (pe_op op_pow pe_int pe_int) pa_nil))) (pe_op op_pow pe_int pe_int)) (pe_g c__law_take hG (hr.mono (by decide)) (by rfl) (pa_cons (pv 0) (pa_cons (pe_op op_pow pe_int pe_int) pa_nil)))) (pe_ix ix_list (pe_lst (pa_cons pe_int (pa_cons (pe_un un_neg pe_int) pa_nil))) (pe_g c__law_take hG (hr.mono (by decide)) (by rfl) (pa_cons (pv 0) (pa_cons pe_int pa_nil))) (fun _ _ => rfl))))) pss_nil)
      (pss_one (ps_ret (pe_op op_sub (pe_g c__law_take hG (hr.mono (by decide)) (by rfl) (pa_cons (pv 0) (pa_cons pe_int pa_nil))) pe_int)))))), ?_⟩
    refine ⟨_, rfl, b, 4, rfl, hB, by decide, by decide, fun d H1 d0 d1 hB1 k1 => ?_⟩
    refine ⟨_, rfl, rfl, _, rfl, ite2 (fun _ => ?_) fun _ => ?_⟩
    · refine ⟨_, _, rfl, rfl, ⟨by decide, by decide, by decide⟩, _, _, rfl, rfl, _, _, rfl, rfl, ⟨by decide, by decide, by decide⟩, _, _, rfl, rfl, _, _, rfl, rfl, ⟨by decide, by decide, by decide⟩, _, rfl, (by show 6 ≤ sizeLine; decide), fun l hl => ?_⟩
      refine ⟨_, rfl, b, 6, rfl, hB1.upd hl, by decide, by decide, fun d2 H3 e0 e1 hB3 k3 => ?_⟩
      have hL := (k3 l (hB1.ne hl)).trans upd_same
      obtain ⟨v, hv, hat⟩ := pickL [.int (10 ^ (30 : Int).toNat - 1), .int (1 - 10 ^ (30 : Int).toNat), .int 0, .int (10 ^ (29 : Int).toNat), .int (-1), .int 10] e0 (by show d2 < ((6 : Nat) : Int); omega)
      have hn : ∃ n, v = .int n ∧ Wn n := by
        simp only [List.mem_cons, List.not_mem_nil, or_false] at hv
        rcases hv with rfl | rfl | rfl | rfl | rfl | rfl
        all_goals exact ⟨_, rfl, by decide, by decide⟩
      obtain ⟨n, rfl, hn⟩ := hn
      exact ⟨l, _, d2, _, rfl, rfl, SqL.of hL, hat, q n H3 hn hB3 ((kp_of k1).trans ((Kp.refl.upd hl).trans (kp_of k3)))⟩
    · refine ⟨_, rfl, rfl, _, rfl, ite2 (fun _ => ?_) fun _ => ?_⟩
      · refine ⟨_, rfl, _, _, rfl, rfl, ⟨by decide, by decide, by decide⟩, ?_⟩
        refine ⟨b, _, rfl, hB1, by decide, by decide, fun d2 H2 e0 e1 hB2 k2 => ?_⟩
        have e1 : d2 < 100000000 := e1
        refine ⟨_, _, rfl, rfl, ⟨by decide, by decide, by decide⟩, _, _, rfl, rfl, .inl ⟨by omega, by omega⟩, ?_⟩
        refine ⟨_, rfl, _, _, rfl, rfl, ⟨by decide, by decide, by decide⟩, ?_⟩
        refine ⟨b, _, rfl, hB2, by decide, by decide, fun d3 H3 f0 f1 hB3 k3 => ?_⟩
        have f1 : d3 < 100000000 := f1
        refine ⟨_, _, rfl, rfl, _, rfl, (by show 2 ≤ sizeLine; decide), fun l hl => ?_⟩
        refine ⟨_, rfl, b, 2, rfl, hB3.upd hl, by decide, by decide, fun d4 H4 g0 g1 hB4 k4 => ?_⟩
        have hL := (k4 l (hB3.ne hl)).trans upd_same
        obtain ⟨v, hv, hat⟩ := pickL [.int 1, .int (-1)] g0 (by show d4 < ((2 : Nat) : Int); omega)
        have hn : v = .int 1 ∨ v = .int (-1) := by
          simp only [List.mem_cons, List.not_mem_nil, or_false] at hv
          exact hv
        have hK : Kp b H H4 := (kp_of k1).trans ((kp_of k2).trans ((kp_of k3).trans ((Kp.refl.upd hl).trans (kp_of k4))))
        have ht : top30 = 999999999999999999999999999999 := by decide
        have hp : (10 : Int) ^ (22 : Int).toNat = 10000000000000000000000 := by decide
        rcases hn with rfl | rfl
        · refine ⟨l, _, d4, _, rfl, rfl, SqL.of hL, hat, _, _, rfl, rfl, .inr ⟨by decide, by decide⟩, q _ H4 ?_ hB4 hK⟩
          unfold Wn
          rw [ht, hp]
          constructor <;> omega
        · refine ⟨l, _, d4, _, rfl, rfl, SqL.of hL, hat, _, _, rfl, rfl, .inr ⟨by decide, by decide⟩, q _ H4 ?_ hB4 hK⟩
          unfold Wn
          rw [ht, hp]
          constructor <;> omega
      · refine ⟨_, rfl, b, 2001, rfl, hB1, by decide, by decide, fun d2 H2 e0 e1 hB2 k2 => ?_⟩
        refine ⟨_, _, rfl, rfl, q _ H2 ?_ hB2 ((kp_of k1).trans (kp_of k2))⟩
        have ht : top30 = 999999999999999999999999999999 := by decide
        unfold Wn
        rw [ht]
        constructor <;> omega
/-! the figures of a number -/
def nz (m : Nat) : List Nat := if m = 0 then [] else numL m
theorem nz_step {m : Nat} (h : 0 < m) : nz m = nz (m / 10) ++ [48 + m % 10] := by
  unfold nz
  rw [if_neg (by omega)]
  by_cases h1 : m < 10
  · rw [if_pos (by omega), numL_lt h1, Nat.mod_eq_of_lt h1]
    rfl
  · rw [if_neg (by omega), numL_step (by omega)]
theorem tl_neg (k : Nat) (h : 0 < k) : (Str.ofString (toString (-(k : Int)))).cps.toList = 45 :: numL k := by
  obtain ⟨m, rfl⟩ : ∃ m, k = m + 1 := ⟨k - 1, by omega⟩
  rw [signs_ofString]
  show ("-" ++ Nat.repr (m + 1)).toList.map Char.toNat = _
  rw [String.toList_append, List.map_append, Nat.toList_repr]
  rfl
theorem minus_one : (repS (Str.ofString "-") 1).cps.toList = [45] := by
  rw [repS_one]
  decide +kernel
theorem fig_at {m : Nat} : atI (Str.ofString "0123456789").cps.toList ((m : Nat) % 10 : Int) = some (48 + m % 10) := by
  have e : ((m : Nat) % 10 : Int) = ((m % 10 : Nat) : Int) := by omega
  rw [e, figs_list]
  refine atI_nat ?_
  have h : m % 10 < 10 := Nat.mod_lt m (by decide)
  generalize m % 10 = j at h
  have : ∀ j, j < 10 → [48, 49, 50, 51, 52, 53, 54, 55, 56, 57][j]? = some (48 + j) := by decide
  exact this j h
def spFig : Sp := fun vs H Q _ => ∃ n : Int, vs = [.int n] ∧ Wn n ∧ Q (.str (toString n)) H
theorem ok_fig (T : Txt K mg) (D : DefAt K mg "_law_figures" s__law_figures ["_law_number"]) : CalG P w K mg base 1 "_law_figures" spFig := by
  refine D.cal sc__law_figures (fun vs H Q E h => ?_) (fun f cdv A outer s H vs Q E hG hr h => ?_)
  · obtain ⟨n, rfl, _⟩ := h
    rfl
  · obtain ⟨n, rfl, hn, q⟩ := h
    refine ⟨_, (pss_cons (ps_if (pt_cmpR op_eq (pv 0) pe_int (nomark _))
          (pss_one (ps_ret pe_str)) pss_nil)
      (pss_cons (ps_set (i := 1) sc__law_figures.nd rfl (Or.inl rfl) pe_str)
      (pss_cons (ps_set (i := 2) sc__law_figures.nd rfl (Or.inl rfl) (pe_callB call_abs (by rfl) T.b_abs boot_abs_ (pa_cons (pv 0) pa_nil)))
      (pss_cons (ps_while PassesOwn.never (pt_cmpR op_gt (pv 2) pe_int (nomark _))
          (pss_cons (ps_set (i := 1) sc__law_figures.nd rfl (Or.inl rfl) (pe_op op_add_str (pe_ix ix_str pe_str (pe_op op_mod (pv 2) pe_int) (fun _ _ => rfl)) (pv 1)))
          (pss_one (ps_set (i := 2) sc__law_figures.nd rfl (Or.inl rfl) (pe_op op_fdiv (pv 2) pe_int)))))
      (pss_one (ps_ret (pe_op op_add_str (pe_op op_mulS pe_str (pe_callTy call_int1 (by rfl) T.t_int boot_int_ (pa_cons (pe_cmpR op_lt (pv 0) pe_int (nomark _)) pa_nil))) (pv 1)))))))), ?_⟩
    refine ⟨_, rfl, rfl, _, rfl, ite2 (fun h0 => ?_) fun h0 => ?_⟩
    · have e : n = 0 := by
        have := of_decide_eq_true h0
        cases this
        rfl
      subst e
      exact q
    · have hne : n ≠ 0 := fun e => h0 (by rw [e]; rfl)
      refine ⟨_, rfl, _, rfl, ?_⟩
      have hab : (if n < 0 then -n else n) = (n.natAbs : Int) := by split <;> omega
      rw [hab]
      have hlen : (numL n.natAbs).length ≤ 30 := by
        refine numL_len (by decide) ?_
        have ht : top30 = 999999999999999999999999999999 := by decide
        have h1 := hn.1
        have h2 := hn.2
        rw [ht] at h1 h2
        have : (10 : Nat) ^ 30 = 1000000000000000000000000000000 := by decide
        omega
      have hpos : 0 < n.natAbs := by omega
      generalize ha : n.natAbs = a at hlen hpos
      refine ⟨fun m σ H' => H' = H ∧ ∃ y : Str, σ = [some (.int n), some (.str y), some (.int (m : Nat))] ∧ numL a = nz m ++ y.cps.toList, ⟨a, rfl, _, rfl, ?_⟩, ?_⟩
      · unfold nz
        rw [if_neg (by omega)]
        show _ = _ ++ []
        rw [List.append_nil]
      · rintro m σ H' ⟨rfl, y, rfl, e⟩
        refine ⟨_, rfl, _, _, rfl, rfl, _, rfl, ?_⟩
        refine ite2 (fun hm => ?_) (fun hm => ?_)
        · have hm : 0 < m := by have := of_decide_eq_true hm; omega
          refine ⟨fun σ' H'' => H'' = H' ∧ ∃ y : Str, σ' = [some (.int n), some (.str y), some (.int ((m / 10 : Nat) : Nat))] ∧ numL a = nz (m / 10) ++ y.cps.toList, fun σ' H'' hh => ⟨m / 10, by omega, hh⟩, ?_⟩
          have hyl : y.length ≤ 30 := by
            have e2 := congrArg List.length e
            rw [List.length_append] at e2
            rw [len_list]
            omega
          refine ⟨_, rfl, _, _, rfl, rfl, (by show (0 : Int) < 10; decide), _, _, _, rfl, rfl, (by decide), fig_at, ?_⟩
          refine ⟨_, rfl, _, _, rfl, rfl, ?_, ?_⟩
          · show 1 + y.length ≤ sizeLine
            have : (31 : Nat) ≤ sizeLine := by decide
            omega
          · refine ⟨_, rfl, _, _, rfl, rfl, (by show (0 : Int) < 10 ∧ (10 : Int) < 1073741824; decide), rfl, (⟨#[48 + m % 10]⟩ : Str) ++ y, ?_, ?_⟩
            · have e3 : ((m : Nat) : Int) / 10 = ((m / 10 : Nat) : Int) := by omega
              rw [← e3]
              rfl
            · rw [e, nz_step hm, List.append_assoc]
              congr 1
              rw [cps_toList_append]
        · have hm : m = 0 := by
            have : ¬ (0 < (m : Int)) := fun z => hm (decide_eq_true z)
            omega
          subst hm
          have e' : numL a = y.cps.toList := e
          have hyl : y.length ≤ 30 := by
            rw [len_list, ← e']
            exact hlen
          refine ⟨_, rfl, _, _, rfl, rfl, .inr ⟨_, rfl, ?_⟩⟩
          by_cases hn0 : n < 0
          · rw [decide_eq_true hn0]
            refine ⟨_, 1, rfl, rfl, by decide, by decide, by decide, by decide, by rw [repS_one]; decide, _, rfl, _, _, rfl, rfl, ?_, ?_⟩
            · rw [repS_one]
              show 1 + y.length ≤ sizeLine
              have : (31 : Nat) ≤ sizeLine := by decide
              omega
            · have e5 : repS (Str.ofString "-") 1 ++ y = Str.ofString (toString n) := by
                apply str_ext
                rw [cps_toList_append, minus_one, ← e']
                have e6 : n = -(a : Int) := by omega
                rw [e6, tl_neg a hpos]
                rfl
              rw [e5]
              exact q
          · rw [decide_eq_false hn0]
            refine ⟨_, 0, rfl, rfl, by decide, by decide, by decide, by decide, by decide, _, rfl, _, _, rfl, rfl, ?_, ?_⟩
            · show 0 + y.length ≤ sizeLine
              have : (31 : Nat) ≤ sizeLine := by decide
              omega
            · have e5 : repS (Str.ofString "-") 0 ++ y = Str.ofString (toString n) := by
                apply str_ext
                rw [cps_toList_append, ← e']
                have e6 : n = (a : Int) := by omega
                rw [e6]
                exact (tl_num a).symm
              rw [e5]
              exact q
end
end Ky
set_option maxHeartbeats 1000000
namespace Ky
open PySem PySem.Spec PyProof.Rows L2 Gd Ge PySem.NumText TL
section
variable {P : Program} {w : World} {K : PySem.W.Frag} {mg : Str → Option Value} {base : Heap} {CN fN CW fW CM : Addr}
/-- a short text of plain signs -/
def TxtOk (z : Str) : Prop := z.length ≤ 1000 ∧ ∀ c ∈ z.cps.toList, c < 128
def dueV (d : PyData) : V := match worthOf d with
  | some n => .int n
  | none => .non
theorem cut_head (z : Str) : (cutS z none (some 1)).cps.toList = z.cps.toList.take 1 := by
  unfold cutS
  rw [HT.sIx_none, show HT.sIx z.length z.length (some 1) = min 1 z.length from HT.sIx_nat z.length z.length 1]
  have e : z.length = z.cps.toList.length := len_list z
  rw [e]
  generalize z.cps.toList = cs
  cases cs with
  | nil => rfl
  | cons c r =>
    rw [show min 1 (c :: r).length = 1 by rw [List.length_cons]; omega]
    rfl
theorem head_minus (z : Str) : decide (V.str (cutS z none (some 1)) = V.str (Str.ofString "-")) = decide (z.cps.toList.head? = some 45) := by
  rw [str_eq, cut_head]
  have e : (Str.ofString "-").cps.toList = [45] := by decide +kernel
  rw [e]
  refine decide_eq_decide.mpr ?_
  cases z.cps.toList with
  | nil => simp
  | cons c r => simp
theorem pickDue {D : Ends} {H : Hp} {z : Str} {b : Bool} (hz : z.length ≤ 1000) (hb : b = decide (z.cps.toList.head? = some 45))
    (key : ∀ y : Str, y.cps.toList = figs z.cps.toList → D.nx [some (.str z), some (.str y), none, none] H) :
    if b = true then tAsg (tSl rSlS (tVar 0) (tPart (tC (.int 1))) tNoPart) (gName 1) D [some (.str z), some (.str z), none, none] H else tNext D [some (.str z), some (.str z), none, none] H := by
  subst hb
  by_cases hm : z.cps.toList.head? = some 45
  · rw [decide_eq_true hm]
    refine iteT ⟨_, rfl, _, rfl, _, rfl, Nat.le_trans hz (by decide), key _ ?_⟩
    rw [cut_tail]
    exact (if_pos hm).symm
  · rw [decide_eq_false hm]
    refine iteF (key _ ?_)
    exact (if_neg hm).symm
theorem figs_mem {cs : List Nat} {c : Nat} (h : c ∈ figs cs) : c ∈ cs := by
  unfold figs at h
  split at h
  · exact List.mem_of_mem_tail h
  · exact h
def sg (c : Nat) : V := .str ⟨#[c]⟩
def sgD (c : Nat) : PyData := .str ⟨#[c]⟩
theorem dpSg {K : PySem.W.Frag} {H : Hp} : ∀ cs : List Nat, DpAll K H (cs.map sg) (cs.map sgD)
  | [] => .nil
  | c :: r => .cons (.str _) (dpSg r)
theorem sgOk {c : Nat} (h : c < 128) : PyData.strOk ⟨#[c]⟩ = true := by
  have all : ∀ c, c < 128 → PyData.strOk ⟨#[c]⟩ = true := by decide +kernel
  exact all c h
theorem canSg : ∀ cs : List Nat, (∀ c ∈ cs, c < 128) → PyData.canLayAll0 (cs.map sgD) = true
  | [], _ => by simp [PyData.canLayAll0]
  | c :: r, h => by
    rw [List.map_cons]
    simp [PyData.canLayAll0, sgD, PyData.canLay0, canSg r (fun d hd => h d (List.mem_cons_of_mem _ hd)), sgOk (h c (List.mem_cons_self ..))]
theorem depSg : ∀ cs : List Nat, PyData.depthAll (cs.map sgD) = 0
  | [] => by simp [PyData.depthAll]
  | c :: r => by
    rw [List.map_cons]
    simp [PyData.depthAll, sgD, PyData.depth, depSg r]
theorem shSg (cs : List Nat) (h : ∀ c ∈ cs, c < 128) : SeqAt.shaped (.list (cs.map sgD)) = true := by
  unfold SeqAt.shaped
  simp [PyData.canLay0, canSg cs h, PyData.depth, depSg]
theorem eqvSg (cs : List Nat) : PyData.eqv (.list (cs.map sgD)) (.list []) = decide (cs = []) := by
  cases cs with
  | nil => simp [PyData.eqv, PyData.eqvAll]
  | cons n r => simp [PyData.eqv, PyData.eqvAll]
theorem index_fig {c : Nat} (h : isFig c = true) : Builtin.Str.occurrences (Str.ofString "0123456789") ⟨#[c]⟩ 0 (Str.ofString "0123456789").length 1 = (c - 48) :: [] := by
  have h2 := of_decide_eq_true h
  obtain ⟨j, rfl⟩ : ∃ j, c = 48 + j := ⟨c - 48, by omega⟩
  have hj : j < 10 := by omega
  have all : ∀ j, j < 10 → Builtin.Str.occurrences (Str.ofString "0123456789") ⟨#[48 + j]⟩ 0 (Str.ofString "0123456789").length 1 = (48 + j - 48) :: [] := by decide +kernel
  exact all j hj
theorem val_snoc (cs : List Nat) (c : Nat) : digitsVal (cs ++ [c]) = digitsVal cs * 10 + (c - 48) := by
  unfold digitsVal
  rw [List.foldl_append]
  rfl
theorem due_none {z : Str} (h : okText z.cps.toList = false) : dueV (.str z) = .non := by
  unfold dueV
  rw [worth_not (d := .str z) h]
theorem due_some {z : Str} (h : okText z.cps.toList = true) : dueV (.str z) = .int (valText z.cps.toList) := by
  unfold dueV
  rw [show worthOf (.str z) = some (valText z.cps.toList) from if_pos h]
def spDue (K : PySem.W.Frag) : Sp := fun vs H Q _ => ∃ (v : V) (d : PyData), vs = [v] ∧ D1 K H v d ∧ (∀ z, d = .str z → TxtOk z) ∧ ∀ H', Same H H' → Q (dueV d) H'
theorem ok_due (T : Txt K mg) (D : DefAt K mg "_law_due" s__law_due ["_law_thing"]) : CalG P w K mg base 1 "_law_due" (spDue K) := by
  refine D.cal sc__law_due (fun vs H Q E h => ?_) (fun f cdv A outer s H vs Q E hG hr h => ?_)
  · obtain ⟨v, d, rfl, _⟩ := h
    rfl
  · obtain ⟨v, d, rfl, hd, hlen, q⟩ := h
    refine ⟨_, (pss_cons (ps_if (pt_not (pt_val (pe_callB call_isi (by rfl) T.b_isinstance boot_isinstance_ (pa_cons (pv 0) (pa_cons (pe_bltn (v := .ty "str") (by rfl) T.t_str boot_str_ rfl) pa_nil)))))
          (pss_one (ps_ret pe_non)) pss_nil)
      (pss_cons (ps_set (i := 1) sc__law_due.nd rfl (Or.inl rfl) (pv 0))
      (pss_cons (ps_if (pt_cmpR op_eq (pe_slice sl_str (pv 0) po_none (po_some pe_int)) pe_str (nomark _))
          (pss_one (ps_set (i := 1) sc__law_due.nd rfl (Or.inl rfl) (pe_slice sl_str (pv 0) (po_some pe_int) po_none))) pss_nil)
      (pss_cons (ps_if (PW.pt (pw_or (pt_cmpR op_eq (pe_callB call_len (by rfl) T.b_len boot_len_ (pa_cons (pv 1) pa_nil)) pe_int (nomark _)) (pw_or (pt_cmpR op_gt (pe_callB call_len (by rfl) T.b_len boot_len_ (pa_cons (pv 1) pa_nil)) pe_int (nomark _)) (pw_or1 (pt_cmpR (op_neD (hu64 hr)) (pe_lc (own := [("_law_sign", 2)]) (g := gName 2) (tt := _) rfl sc__law_due.nd (pi_str (pv 1)) (blkOk_by (own := [("_law_sign", 2)]) (N := ["_law_thing", "_law_figures_here", "_law_sign", "_law_total"]) (sc := defScope s__law_due) (by decide +kernel)) (fun _ _ _ _ _ => pg_name (i := 2) sc__law_due.nd rfl (Or.inl rfl)) (fun _ _ _ _ _ => (pts_one (pt_cmpR op_notIn_sign (pv 2) pe_str (by rfl)))) (fun _ _ _ _ _ => (pv 2))) (pe_lst pa_nil) (nomark _))))))
          (pss_one (ps_ret pe_non)) pss_nil)
      (pss_cons (ps_if (PW.pt (pw_and (pt_cmpR op_eq (pe_ix ix_str (pv 1) pe_int (fun _ _ => rfl)) pe_str (nomark _)) (pw_and1 (pt_cmpR op_ne (pv 0) pe_str (nomark _)))))
          (pss_one (ps_ret pe_non)) pss_nil)
      (pss_cons (ps_set (i := 3) sc__law_due.nd rfl (Or.inl rfl) pe_int)
      (pss_cons (ps_for PassesOwn.never rfl (pi_str (pv 1)) (pg_name (i := 2) sc__law_due.nd rfl (Or.inl rfl))
          (pss_one (ps_set (i := 3) sc__law_due.nd rfl (Or.inl rfl) (pe_op op_add (pe_op op_mul pe_int (pv 3)) (pe_m1 F.slot_str_index F.type_str_index mt_sindex pe_str (pv 2))))))
      (pss_cons (ps_if (pt_cmpR op_eq (pe_slice sl_str (pv 0) po_none (po_some pe_int)) pe_str (nomark _))
          (pss_one (ps_ret (pe_op op_sub pe_int (pv 3)))) pss_nil)
      (pss_one (ps_ret (pv 3))))))))))), ?_⟩
    refine ⟨_, rfl, v, .ty "str", _, .type "str", _, rfl, .ty _, tyD hd, kStr d, _, rfl, ?_⟩
    cases hs : isStrD d with
    | false =>
      have z := q _ (fun _ _ z => z)
      have e : dueV d = .non := by
        unfold dueV
        rw [worth_not (isT_other hs)]
      rw [e] at z
      exact iteT z
    | true =>
      cases d with
      | str z =>
        cases d1Str hd
        have hz := (hlen z rfl).1
        have hzc := (hlen z rfl).2
        refine iteF ?_
        refine ⟨_, rfl, ?_⟩
        refine ⟨_, rfl, _, rfl, _, rfl, Nat.le_trans hz (by decide), rfl, _, rfl, ?_⟩
        refine pickDue hz (head_minus z) fun y hy => ?_
        have ly : y.length = (figs z.cps.toList).length := by rw [← hy]; exact len_list y
        have ly2 : y.length ≤ 1000 := by
          have e2 := figs_len z.cps.toList
          rw [← len_list z] at e2
          omega
        have lv : LenV K (.str y) H y.length := ⟨Nat.le_trans ly2 (by decide), rfl⟩
        have hq : okText z.cps.toList = (decide (1 ≤ y.length) && decide (y.length ≤ 30) && y.cps.toList.all isFig && (!decide (y.cps.toList.head? = some 48) || decide (z.cps.toList = [48]))) := by
          rw [ly, hy]
          rfl
        have bad : okText z.cps.toList = false → ∀ H', Same H H' → Q .non H' := fun h H' sm => by
          have z := q H' sm
          rw [due_none h] at z
          exact z
        refine ⟨_, rfl, .str y, y.length, rfl, lv, rfl, _, rfl, ?_⟩
        refine ite2 (fun h1 => ?_) (fun h1 => ?_)
        · refine iteT (bad ?_ _ fun _ _ z => z)
          have h2 : y.length = 0 := by
            have := of_decide_eq_true h1
            have := V.int.inj this
            omega
          rw [hq, h2]
          rfl
        · have hp : 1 ≤ y.length := by
            refine Nat.pos_of_ne_zero fun e => h1 ?_
            rw [e]
            rfl
          refine ⟨_, rfl, .str y, y.length, rfl, lv, _, _, rfl, rfl, _, rfl, ?_⟩
          refine ite2 (fun h2 => ?_) (fun h2 => ?_)
          · refine iteT (bad ?_ _ fun _ _ z => z)
            have h3 : ¬ y.length ≤ 30 := by
              have := of_decide_eq_true h2
              omega
            rw [hq, decide_eq_false h3, Bool.and_false, Bool.false_and, Bool.false_and]
          · have h3 : y.length ≤ 30 := by
              refine Nat.le_of_not_lt fun z => h2 (decide_eq_true ?_)
              omega
            rw [decide_eq_true hp, decide_eq_true h3, Bool.true_and, Bool.true_and] at hq
            refine ⟨_, rfl, y, rfl, fun D hD => ?_⟩
            refine lc_it walk_str (fun i H' => Same H H' ∧ H' D = some (.lst (((y.cps.toList.take i).filter fun c => !isFig c).map sg))) ⟨same_new hD, upd_same⟩ (fun _ _ _ _ => trivial) (fun i x H1 H' hi hP hY => ?_) (fun H' hP => ?_)
            · obtain ⟨rfl, c, hc, rfl⟩ := hY
              refine ⟨rfl, ?_⟩
              have hc' : y.cps.toList[i]? = some c := by rw [Array.getElem?_toList]; exact hc
              have hstep : (y.cps.toList.take (i + 1)).filter (fun c => !isFig c) = (y.cps.toList.take i).filter (fun c => !isFig c) ++ (if isFig c = true then [] else [c]) := by
                rw [List.take_add_one, hc', List.filter_append]
                cases hf : isFig c <;> simp [hf]
              refine ⟨_, rfl, c, _, rfl, rfl, _, rfl, ?_⟩
              rw [in_figs]
              cases hf : isFig c with
              | true =>
                rw [hf] at hstep
                refine iteF ⟨hP.1, ?_⟩
                rw [hstep]
                have e9 : ∀ l : List Nat, l ++ (if true = true then [] else [c]) = l := fun l => List.append_nil l
                rw [e9]
                exact hP.2
              | false =>
                rw [hf] at hstep
                refine iteT ⟨_, rfl, _, hP.2, ?_, ?_, ?_⟩
                · rw [List.length_map]
                  refine Nat.lt_of_le_of_lt (List.length_filter_le _ _) ?_
                  rw [List.length_take]
                  exact Nat.lt_of_le_of_lt (Nat.min_le_right _ _) (small1000 (by rw [← len_list]; omega))
                · intro c o hc
                  rw [upd_ne (ne_of_none hc hD)]
                  exact hP.1 c o hc
                · rw [upd_same, hstep, List.map_append]
                  rfl
            · obtain ⟨sm, hD2⟩ := hP
              rw [take_all] at hD2
              refine ⟨(by show 0 ≤ sizeLine; decide), fun l hl => ?_⟩
              have hDl := kep (o := .lst (((y.cps.toList).filter fun c => !isFig c).map sg)) (u := .lst []) hD2 hl
              have sm2 : Same H (upd H' l (.lst [])) := sm.trans (same_new hl)
              have hsm : ∀ c ∈ (y.cps.toList).filter (fun c => !isFig c), c < 128 := fun c hc => by
                have h5 := (List.mem_filter.mp hc).1
                rw [hy] at h5
                exact hzc c (figs_mem h5)
              refine ⟨.list (((y.cps.toList).filter fun c => !isFig c).map sgD), .list [], .lst (SqL.of hDl) (dpSg _), .lst (SqL.of upd_same) .nil, shSg _ hsm, shSg [] (fun _ z => nomatch z), _, rfl, ?_⟩
              generalize upd H' l (.lst []) = H2 at sm2
              rw [eqvSg]
              have hall : decide ((y.cps.toList).filter (fun c => !isFig c) = []) = y.cps.toList.all isFig := by
                rw [Bool.eq_iff_iff, decide_eq_true_iff, List.all_eq_true, List.filter_eq_nil_iff]
                constructor
                · intro h c hc
                  have := h c hc
                  simpa using this
                · intro h c hc
                  rw [h c hc]
                  decide
              rw [hall]
              cases ha : y.cps.toList.all isFig with
              | false =>
                rw [ha] at hq
                exact iteT (bad hq _ sm2)
              | true =>
                rw [ha, Bool.true_and] at hq
                refine iteF ?_
                have hne : y.cps.toList ≠ [] := fun e0 => by
                  rw [len_list y, e0] at hp
                  exact absurd hp (by decide)
                obtain ⟨c, r, hcr⟩ := List.exists_cons_of_ne_nil hne
                refine ⟨_, rfl, y, 0, c, rfl, rfl, Nat.le_trans ly2 (by decide), (by rw [hcr]; exact atI_zero), rfl, _, rfl, ?_⟩
                rw [sign_eq]
                have hh : decide (y.cps.toList.head? = some 48) = decide (c = 48) := by
                  rw [hcr]
                  refine decide_eq_decide.mpr ?_
                  simp
                rw [hh] at hq
                have go : okText z.cps.toList = true → tSeq (tAsg (tC (V.int 0)) (gName 3))
                    (tSeq
                      (tFor (iStr (tVar 1)) (gName 2)
                        (tAsg
                          (tOp (rI0 fun i j => V.int (i + j)) (tOp (rI CMul fun i j => V.int (i * j)) (tC (V.int 10)) (tVar 3))
                            (tM1 (fun x xs H Q => ∃ a b i rest, x = V.str a ∧ xs = [V.str b] ∧ Builtin.Str.occurrences a b 0 a.length 1 = i :: rest ∧ Q (V.int ↑i) H) (tC (V.str (Str.ofString "0123456789"))) (tVar 2)))
                          (gName 3)))
                      (tSeq
                        (tIfS (tTest (tOp rEq (tSl rSlS (tVar 0) tNoPart (tPart (tC (V.int 1)))) (tC (V.str (Str.ofString "-")))))
                          (tRet (tOp (rI0 fun i j => V.int (i - j)) (tC (V.int 0)) (tVar 3))) tNext)
                        (tRet (tVar 3)))) { nx := fun x H' => Q V.non H', rt := Q } [some (V.str z), some (V.str y), none, none] H2 := fun hok => by
                  have hQ := q H2 sm2
                  rw [due_some hok] at hQ
                  refine ⟨_, rfl, y, rfl, ?_⟩
                  refine for_it walk_str (fun i σ H' => H' = H2 ∧ ∃ x, σ = [some (.str z), some (.str y), x, some (.int ((digitsVal (y.cps.toList.take i) : Nat) : Int))]) ⟨rfl, none, rfl⟩ (fun _ _ _ _ _ => trivial) (fun i x σ H1 H' hi hP hY => ?_) (fun σ H' hP => ?_)
                  · obtain ⟨rfl, c, hc, rfl⟩ := hY
                    obtain ⟨rfl, x, rfl⟩ := hP
                    have hc' : y.cps.toList[i]? = some c := by rw [Array.getElem?_toList]; exact hc
                    have hf : isFig c = true := List.all_eq_true.mp ha c (List.mem_of_getElem? hc')
                    refine ⟨_, rfl, _, _, rfl, rfl, .inl ⟨by decide, by decide⟩, ⟨_, rfl⟩, _, rfl, _, _, c - 48, [], rfl, rfl, index_fig hf, _, _, rfl, rfl, rfl, some (sg c), ?_⟩
                    have e7 : (10 : Int) * ((digitsVal (y.cps.toList.take i) : Nat) : Int) + ((c - 48 : Nat) : Int) = ((digitsVal (y.cps.toList.take (i + 1)) : Nat) : Int) := by
                      rw [List.take_add_one, hc']
                      show _ = ((digitsVal (_ ++ [c]) : Nat) : Int)
                      rw [val_snoc]
                      omega
                    rw [← e7]
                    rfl
                  · obtain ⟨rfl, x, rfl⟩ := hP
                    rw [take_all]
                    refine ⟨_, rfl, _, rfl, _, rfl, Nat.le_trans hz (by decide), rfl, _, rfl, ?_⟩
                    rw [head_minus]
                    have hV : valText z.cps.toList = if z.cps.toList.head? = some 45 then -((digitsVal y.cps.toList : Nat) : Int) else ((digitsVal y.cps.toList : Nat) : Int) := by
                      rw [hy]
                      rfl
                    by_cases hm : z.cps.toList.head? = some 45
                    · rw [decide_eq_true hm]
                      rw [if_pos hm] at hV
                      rw [hV] at hQ
                      refine iteT ⟨_, rfl, _, _, rfl, rfl, ?_⟩
                      rw [← Int.zero_sub] at hQ
                      exact hQ
                    · rw [decide_eq_false hm]
                      rw [if_neg hm] at hV
                      rw [hV] at hQ
                      exact iteF ⟨_, rfl, hQ⟩
                cases h48 : decide (c = 48) with
                | false =>
                  rw [h48] at hq
                  exact iteF (iteF (go hq))
                | true =>
                  rw [h48] at hq
                  refine iteT ⟨_, rfl, rfl, _, rfl, ?_⟩
                  rw [str_zero]
                  cases h0 : decide (z.cps.toList = [48]) with
                  | false =>
                    rw [h0] at hq
                    exact iteT (bad hq _ sm2)
                  | true =>
                    rw [h0] at hq
                    exact iteF (go hq)
      | _ => cases hs
end
end Ky
set_option maxHeartbeats 1000000
namespace Ky
open PySem PySem.Spec PyProof.Rows L2 Gd Ge PySem.NumText TL
section
variable {P : Program} {w : World} {K : PySem.W.Frag} {mg : Str → Option Value} {base : Heap} {CN fN CW fW CM : Addr}
def Ts (z : Str) (n : Nat) : Prop := z.length ≤ n ∧ ∀ c ∈ z.cps.toList, c < 128
theorem Ts.up {z : Str} {m n : Nat} (h : Ts z m) (k : m ≤ n) : Ts z n := ⟨Nat.le_trans h.1 k, h.2⟩
theorem Ts.add {x y : Str} {m n : Nat} (h : Ts x m) (k : Ts y n) : Ts (x ++ y) (m + n) := by
  constructor
  · rw [len_list, cps_toList_append, List.length_append, ← len_list, ← len_list]
    exact Nat.add_le_add h.1 k.1
  · intro c hc
    rw [cps_toList_append, List.mem_append] at hc
    rcases hc with hc | hc
    · exact h.2 c hc
    · exact k.2 c hc
theorem Ts.cut {z : Str} {n : Nat} (h : Ts z n) (lo hi : Option Int) : Ts (cutS z lo hi) n := by
  unfold cutS
  constructor
  · rw [len_list]
    show (List.take _ (List.drop _ _)).length ≤ n
    rw [List.length_take, List.length_drop, ← len_list]
    have := h.1
    omega
  · intro c hc
    exact h.2 c (List.mem_of_mem_drop (List.mem_of_mem_take hc))
theorem leS {x y : Str} {m n : Nat} (h : Ts x m) (k : Ts y n) (l : m + n ≤ 1000) : x.length + y.length ≤ sizeLine := by
  have := h.1
  have := k.1
  have : 1000 ≤ sizeLine := by decide
  omega
theorem ts_one {c : Nat} (h : c < 128) : Ts ⟨#[c]⟩ 1 := ⟨Nat.le_refl 1, fun d hd => by
  rw [List.mem_singleton.mp (show d ∈ [c] from hd)]
  exact h⟩
theorem pickS (z : Str) {k : Int} (h0 : 0 ≤ k) (h1 : k < z.length) : ∃ c, c ∈ z.cps.toList ∧ atI z.cps.toList k = some c := by
  obtain ⟨j, rfl⟩ : ∃ j : Nat, k = j := ⟨k.toNat, by omega⟩
  rw [len_list] at h1
  have hj : j < z.cps.toList.length := by omega
  exact ⟨_, List.getElem_mem hj, atI_nat (List.getElem?_eq_getElem hj)⟩
def sgs : Str := Str.ofString " !\"#$&'()*+,-./0123456789:;<=>?@ABCDEFGHIJKLMNOPQRSTUVWXYZ[\\]^_`abcdefghijklmnopqrstuvwxyz{|}~\n"
theorem sgs_ok : ∀ c ∈ sgs.cps.toList, c < 128 := by decide +kernel
theorem hB3' {H : Hp} {b l l2 l3 : Addr} {o o2 : HO} (hB : BoxAt H b) (h1 : H l = none) (h2 : upd H l o l2 = none) (h3 : upd (upd H l o) l2 o2 l3 = none) : l3 ≠ b := ((hB.upd h1).upd h2).ne h3
def spSpoilt : Sp := fun vs H Q _ => ∃ (b : Addr) (z : Str), vs = [.ref b, .str z] ∧ BoxAt H b ∧ Ts z 40 ∧ ∀ (y : Str) (H' : Hp), Ts y 200 → BoxAt H' b → Kp b H H' → Q (.str y) H'
theorem ok_spoilt (T : Txt K mg) (c__law_take : CalG P w K mg base 1 "_law_take" spTake) (D : DefAt K mg "_law_spoilt" s__law_spoilt ["_law_box_here", "_law_text"]) : CalG P w K mg base 2 "_law_spoilt" spSpoilt := by
  refine D.cal sc__law_spoilt (fun vs H Q E h => ?_) (fun f cdv A outer s H vs Q E hG hr h => ?_)
  · obtain ⟨b, z, rfl, _⟩ := h
    rfl
  · obtain ⟨b, z, rfl, hB, hz, q⟩ := h
    refine ⟨_, (pss_cons (ps_set (i := 2) sc__law_spoilt.nd rfl (Or.inl rfl) pe_str)
      (pss_cons (ps_set (i := 3) sc__law_spoilt.nd rfl (Or.inl rfl) (pe_g c__law_take hG (hr.mono (by decide)) (by rfl) (pa_cons (pv 0) (pa_cons (pe_op op_add (pe_callB call_len (by rfl) T.b_len boot_len_ (pa_cons (pv 1) pa_nil)) pe_int) pa_nil))))
      (pss_cons (ps_set (i := 4) sc__law_spoilt.nd rfl (Or.inl rfl) (pe_ix ix_str (pv 2) (pe_g c__law_take hG (hr.mono (by decide)) (by rfl) (pa_cons (pv 0) (pa_cons (pe_callB call_len (by rfl) T.b_len boot_len_ (pa_cons (pv 2) pa_nil)) pa_nil))) (fun _ _ => rfl)))
      (pss_cons (ps_set (i := 5) sc__law_spoilt.nd rfl (Or.inl rfl) (pe_lst (pa_cons (pe_op op_add_str (pe_op op_add_str (pe_slice sl_str (pv 1) po_none (po_some (pv 3))) (pv 4)) (pe_slice sl_str (pv 1) (po_some (pv 3)) po_none)) (pa_cons (pe_op op_add_str (pe_op op_add_str (pe_slice sl_str (pv 1) po_none (po_some (pv 3))) (pv 4)) (pe_slice sl_str (pv 1) (po_some (pe_op op_add (pv 3) pe_int)) po_none)) (pa_cons (pe_op op_add_str (pe_slice sl_str (pv 1) po_none (po_some (pv 3))) (pe_slice sl_str (pv 1) (po_some (pe_op op_add (pv 3) pe_int)) po_none)) (pa_cons (pe_op op_add_str (pv 1) (pv 1)) pa_nil))))))
      (pss_cons (ps_set (i := 5) sc__law_spoilt.nd rfl (Or.inl rfl) (pe_op op_cat (pv 5) (pe_lst (pa_cons (pe_op op_add_str pe_str (pv 1)) (pa_cons (pe_op op_add_str pe_str (pv 1)) (pa_cons (pe_op op_add_str (pv 1) (pe_op op_mulS pe_str pe_int)) (pa_cons (pe_op op_add_str pe_str (pv 1)) (pa_cons (pe_op op_add_str (pv 1) pe_str) (pa_cons (pe_op op_add_str pe_str (pv 1)) pa_nil)))))))))
      (pss_one (ps_ret (pe_ix ix_list (pv 5) (pe_g c__law_take hG (hr.mono (by decide)) (by rfl) (pa_cons (pv 0) (pa_cons pe_int pa_nil))) (fun _ _ => rfl))))))))), ?_⟩
    have zs : z.length ≤ sizeLine := Nat.le_trans hz.1 (by decide)
    refine ⟨_, rfl, _, rfl, .str z, z.length, rfl, ⟨zs, rfl⟩, _, _, rfl, rfl, b, _, rfl, hB, by omega, ?_, fun at_ H1 a0 a1 hB1 k1 => ?_⟩
    · have := hz.1
      omega
    refine ⟨_, rfl, _, rfl, _, rfl, _, sgs.length, rfl, ⟨by decide +kernel, rfl⟩, b, _, rfl, hB1, by decide +kernel, by decide +kernel, fun d2 H2 b0 b1 hB2 k2 => ?_⟩
    obtain ⟨c, hc, hat⟩ := pickS sgs b0 b1
    have hC : Ts ⟨#[c]⟩ 1 := ts_one (sgs_ok c hc)
    refine ⟨sgs, d2, c, rfl, rfl, by decide +kernel, hat, ?_⟩
    have hA : Ts (cutS z none (some at_)) 40 := hz.cut _ _
    have hR : Ts (cutS z (some at_) none) 40 := hz.cut _ _
    have hR1 : Ts (cutS z (some (at_ + 1)) none) 40 := hz.cut _ _
    refine ⟨_, rfl, _, rfl, _, rfl, _, rfl, zs, _, rfl, _, _, rfl, rfl, leS hA hC (by decide), _, rfl, _, rfl, _, rfl, _, rfl, zs, _, _, rfl, rfl, leS (hA.add hC) hR (by decide), ?_⟩
    refine ⟨_, rfl, _, rfl, _, rfl, _, rfl, zs, _, rfl, _, _, rfl, rfl, leS hA hC (by decide), _, rfl, _, rfl, _, _, rfl, rfl, _, rfl, _, rfl, zs, _, _, rfl, rfl, leS (hA.add hC) hR1 (by decide), ?_⟩
    refine ⟨_, rfl, _, rfl, _, rfl, _, rfl, zs, _, rfl, _, rfl, _, _, rfl, rfl, _, rfl, _, rfl, zs, _, _, rfl, rfl, leS hA hR1 (by decide), ?_⟩
    refine ⟨_, rfl, _, rfl, _, _, rfl, rfl, leS hz hz (by decide), (by show 4 ≤ sizeLine; decide), fun l hl => ?_⟩
    have tN : Ts (Str.ofString "0") 1 := ⟨by decide +kernel, by decide +kernel⟩
    have tM : Ts (Str.ofString "-") 1 := ⟨by decide +kernel, by decide +kernel⟩
    have tB : Ts (Str.ofString " ") 1 := ⟨by decide +kernel, by decide +kernel⟩
    have tL : Ts (Str.ofString "\n") 1 := ⟨by decide +kernel, by decide +kernel⟩
    have tP : Ts (Str.ofString "+") 1 := ⟨by decide +kernel, by decide +kernel⟩
    have tR : Ts (repS (Str.ofString "0") 28) 28 := ⟨by decide +kernel, by decide +kernel⟩
    refine ⟨_, rfl, _, rfl, _, _, rfl, rfl, leS tN hz (by decide), ?_⟩
    refine ⟨_, rfl, _, _, rfl, rfl, leS tM hz (by decide), ?_⟩
    refine ⟨_, rfl, _, 28, rfl, rfl, by decide, by decide, by decide +kernel, by decide +kernel, Nat.le_trans tR.1 (by decide), _, _, rfl, rfl, leS hz tR (by decide), ?_⟩
    refine ⟨_, rfl, _, _, rfl, rfl, leS tB hz (by decide), ?_⟩
    refine ⟨_, rfl, _, _, rfl, rfl, leS hz tL (by decide), ?_⟩
    refine ⟨_, rfl, _, _, rfl, rfl, leS tP hz (by decide), (by show 6 ≤ sizeLine; decide), fun l2 hl2 => ?_⟩
    refine ⟨l, l2, _, _, rfl, rfl, kep upd_same hl2, upd_same, (by show 4 + 6 ≤ sizeLine; decide), fun l3 hl3 => ?_⟩
    refine ⟨_, rfl, _, rfl, b, 10, rfl, ((hB2.upd hl).upd hl2).upd hl3, by decide, by decide, fun d H4 e0 e1 hB4 k4 => ?_⟩
    have hL := (k4 l3 (hB3' hB2 hl hl2 hl3)).trans upd_same
    obtain ⟨v, hv, hatv⟩ := pickL [.str ((cutS z none (some at_) ++ ⟨#[c]⟩) ++ cutS z (some at_) none), .str ((cutS z none (some at_) ++ ⟨#[c]⟩) ++ cutS z (some (at_ + 1)) none), .str (cutS z none (some at_) ++ cutS z (some (at_ + 1)) none), .str (z ++ z), .str (Str.ofString "0" ++ z), .str (Str.ofString "-" ++ z), .str (z ++ repS (Str.ofString "0") 28), .str (Str.ofString " " ++ z), .str (z ++ Str.ofString "\n"), .str (Str.ofString "+" ++ z)] e0 (by show d < ((10 : Nat) : Int); omega)
    have hn : ∃ y, v = .str y ∧ Ts y 200 := by
      simp only [List.mem_cons, List.not_mem_nil, or_false] at hv
      rcases hv with rfl | rfl | rfl | rfl | rfl | rfl | rfl | rfl | rfl | rfl
      · exact ⟨_, rfl, ((hA.add hC).add hR).up (by decide)⟩
      · exact ⟨_, rfl, ((hA.add hC).add hR1).up (by decide)⟩
      · exact ⟨_, rfl, (hA.add hR1).up (by decide)⟩
      · exact ⟨_, rfl, (hz.add hz).up (by decide)⟩
      · exact ⟨_, rfl, (tN.add hz).up (by decide)⟩
      · exact ⟨_, rfl, (tM.add hz).up (by decide)⟩
      · exact ⟨_, rfl, (hz.add tR).up (by decide)⟩
      · exact ⟨_, rfl, (tB.add hz).up (by decide)⟩
      · exact ⟨_, rfl, (hz.add tL).up (by decide)⟩
      · exact ⟨_, rfl, (tP.add hz).up (by decide)⟩
    obtain ⟨y, rfl, hy⟩ := hn
    exact ⟨l3, _, d, _, rfl, rfl, SqL.of hL, hatv, q y H4 hy hB4 ((kp_of k1).trans ((kp_of k2).trans ((((Kp.refl.upd hl).upd hl2).upd hl3).trans (kp_of k4))))⟩
end
end Ky
set_option maxHeartbeats 1000000
namespace Ky
open PySem PySem.Spec PyProof.Rows L2 Gd Ge PySem.NumText TL
section
variable {P : Program} {w : World} {K : PySem.W.Frag} {mg : Str → Option Value} {base : Heap} {CN fN CW fW CM : Addr}
/-- refused = [isinstance(e, C) and repr(e.found) == repr(thing)] -/
def tsSuite (K : PySem.W.Frag) (C : Addr) (i j : Nat) (a : Addr) (cls : Value) (d : Option Addr) : TS :=
  tAsg (tLst (tCons (tAndV (tCB (rIsF K C a cls d) (tCons (tVar j) (tCons (tC (.ref C)) tNil)))
    (tOp rEq (tCB (rRepr K) (tCons (tFound C a cls d (tVar j)) tNil)) (tCB (rRepr K) (tCons (tVar 0) tNil)))) tNil)) (gName i)
theorem one_sh : SeqAt.shaped (.list [.bool true]) = true := by
  unfold SeqAt.shaped
  simp [PyData.canLay0, PyData.canLayAll0, PyData.depth, PyData.depthAll]
theorem one_eqv : PyData.eqv (.list [.bool true]) (.list [.bool true]) = true := by
  simp [PyData.eqv, PyData.eqvAll]
theorem val_lt (n : Nat) : ∀ cs : List Nat, cs.length = n → AllDigits cs → digitsVal cs < 10 ^ n := by
  induction n with
  | zero =>
    intro cs h _
    rw [List.length_eq_zero_iff.mp h]
    decide
  | succ n ih =>
    intro cs h hd
    have hne : cs ≠ [] := fun e => by
      rw [e] at h
      cases h
    have e := List.dropLast_concat_getLast hne
    have hl := hd (cs.getLast hne) (List.getLast_mem hne)
    have h1 := ih cs.dropLast (by rw [List.length_dropLast, h]; rfl) (fun c hc => hd c ((List.dropLast_subset cs) hc))
    rw [← e, val_snoc, Nat.pow_succ]
    omega
theorem worth_big {d : PyData} {n : Int} (h : worthOf d = some n) : Big n := by
  cases d with
  | str z =>
    have h' : (if okText z.cps.toList = true then some (valText z.cps.toList) else none) = some n := h
    by_cases hk : okText z.cps.toList = true
    · rw [if_pos hk] at h'
      have e := Option.some.inj h'
      unfold okText at hk
      simp only [Bool.and_eq_true, decide_eq_true_eq] at hk
      obtain ⟨⟨⟨k1, k2⟩, k3⟩, _⟩ := hk
      have hv := val_lt _ (figs z.cps.toList) rfl (allFig k3)
      have hp : 10 ^ (figs z.cps.toList).length ≤ 10 ^ 30 := Nat.pow_le_pow_right (by decide) k2
      have hq : (10 : Int) ^ 40 = 10000000000000000000000000000000000000000 := by decide
      have hq2 : (10 : Nat) ^ 30 = 1000000000000000000000000000000 := by decide
      rw [hq2] at hp
      unfold valText at e
      unfold Big
      rw [hq, ← e]
      split <;> constructor <;> omega
    · rw [if_neg hk] at h'
      cases h'
  | _ => cases h
def spRR (K : PySem.W.Frag) : Sp := fun vs H Q _ => ∃ (v : V) (d : PyData), vs = [v] ∧ D1 K H v d ∧ (∀ z, d = .str z → TxtOk z) ∧ Okd d 10000 50 ∧ ∀ H', Same H H' → Q (.bl true) H'
theorem ok_rr (T : Txt K mg) (R : Errs P K mg CN fN CW fW CM) (c__law_due : CalG P w K mg base 1 "_law_due" (spDue K)) (c_read_worth : CalX P w K mg base 3 "read_worth" (spRead K CN)) (D : DefAt K mg "_law_read_right" s__law_read_right ["_law_thing"]) : CalG P w K mg base 5 "_law_read_right" (spRR K) := by
  refine D.cal sc__law_read_right (fun vs H Q E h => ?_) (fun f cdv A outer s H vs Q E hG hr h => ?_)
  · obtain ⟨v, d, rfl, _⟩ := h
    rfl
  · obtain ⟨v, d, rfl, hd, htx, hok, q⟩ := h
    refine ⟨_, (pss_cons (ps_set (i := 1) sc__law_read_right.nd rfl (Or.inl rfl) (pe_g c__law_due hG (hr.mono (by decide)) (by rfl) (pa_cons (pv 0) pa_nil)))
      (pss_cons (ps_set (i := 2) sc__law_read_right.nd rfl (Or.inl rfl) pe_non)
      (pss_cons (ps_set (i := 3) sc__law_read_right.nd rfl (Or.inl rfl) pe_non)
      (pss_cons (ps_try_as (i := 4) (tb := fun W => tAsg (tCallS (spRead K CN) (WE W) (tCons (tVar 0) tNil)) (gName 3)) (ts := tsSuite K CN 2 4) (Wout := fun _ _ _ _ => False) rfl rfl sc__law_read_right.nd rfl rfl ⟨rfl, by decide, Or.inl R.g_MakesError⟩ takes0 (fun W pn xe tk _ => pss_one (ps_set (i := 3) sc__law_read_right.nd rfl (Or.inl rfl) (by exact (pe_gx c_read_worth hG (hr.mono (by decide)) rfl tk (by exact (pa_cons (pv 0) pa_nil)))))) (fun a oe cls d pn hz hf => pss_one (ps_set (i := 2) sc__law_read_right.nd rfl (Or.inl rfl) (pe_lst (pa_cons (pe_and (pe_callB (call_isF R.e_NoNumber R.i_NoNumber hz hf) (by rfl) T.b_isinstance boot_isinstance_ (pa_cons (pv 4) (pa_cons (pe_glob (by rfl) R.g_NoNumber rfl) pa_nil))) (pe_one (pe_cmpR op_eq (pe_callB (call_repr hG (by have z := hu64 hr; exact z)) (by rfl) T.b_repr boot_repr_ (pa_cons (pe_found R.e_NoNumber hz hf (pv 4)) pa_nil)) (pe_callB (call_repr hG (by have z := hu64 hr; exact z)) (by rfl) T.b_repr boot_repr_ (pa_cons (pv 0) pa_nil)) (nomark _)))) pa_nil)))))
      (pss_cons (ps_if (pt_cmpR op_isN (pv 1) pe_non (nomark _))
          (pss_one (ps_ret (pe_cmpR (op_eqD (hu64 hr)) (pv 2) (pe_lst (pa_cons pe_bl pa_nil)) (nomark _)))) pss_nil)
      (pss_one (ps_ret (pe_and (pe_cmpR op_isN (pv 2) pe_non (nomark _)) (pe_one (pe_cmpR op_eq (pe_callB (call_repr hG (hu64 hr)) (by rfl) T.b_repr boot_repr_ (pa_cons (pv 3) pa_nil)) (pe_callB (call_repr hG (hu64 hr)) (by rfl) T.b_repr boot_repr_ (pa_cons (pv 1) pa_nil)) (nomark _))))))))))), ?_⟩
    refine ⟨_, rfl, v, d, rfl, hd, htx, fun H1 s1 => ?_⟩
    refine ⟨_, rfl, v, d, rfl, d1Same s1 hd, fun z e => (htx z e).1, fun H2 s2 => ⟨fun n hn => ?_, fun hn a ha => ?_⟩⟩
    · have e1 : dueV d = .int n := by
        unfold dueV
        rw [hn]
      rw [e1]
      have hb : Okd (.int n) 50 0 := okInt (worth_big hn)
      refine ⟨_, rfl, rfl, _, rfl, iteF ?_⟩
      refine ⟨_, rfl, rfl, _, rfl, iteT ?_⟩
      refine ⟨_, rfl, .int n, .int n, rfl, .d1 (.dp (.int n)), hb.sh, Nat.le_trans hb.ln (by decide), Nat.le_trans hb.dp (by decide), ?_⟩
      refine ⟨_, rfl, .int n, .int n, rfl, .d1 (.dp (.int n)), hb.sh, Nat.le_trans hb.ln (by decide), Nat.le_trans hb.dp (by decide), rfl, ?_⟩
      rw [decide_eq_true rfl]
      exact q _ (s1.trans s2)
    · have e1 : dueV d = .non := by
        unfold dueV
        rw [hn]
      rw [e1]
      refine ⟨true, R.m_NoNumber, fun _ a' ha' => ?_, fun z => nomatch z⟩
      have s3 : Same H (upd H2 a (.xd [("found", v)])) := (s1.trans s2).trans (same_new ha)
      have hx : (upd H2 a (.xd [("found", v)])) a = some (.xd [("found", v)]) := upd_same
      generalize upd H2 a (.xd [("found", v)]) = H3 at *
      have hd3 : D2 K H3 v d := .d1 (d1Same s3 hd)
      have l1 : d.shown.length ≤ sizeLine := Nat.le_trans hok.ln (by decide)
      have l2 : d.depth ≤ 60 := Nat.le_trans hok.dp (by decide)
      refine ⟨_, rfl, .ref CN, .ref CN, true, a, v, rfl, rfl, rfl, hx, .own CN, R.k_NoNumber, _, rfl, iteT ?_⟩
      refine ⟨_, rfl, rfl, rfl, a, v, rfl, hx, v, d, rfl, hd3, hok.sh, l1, l2, ?_⟩
      refine ⟨_, rfl, v, d, rfl, hd3, hok.sh, l1, l2, rfl, ?_⟩
      rw [decide_eq_true rfl]
      refine ⟨(by show 1 ≤ sizeLine; decide), fun l hl => ?_⟩
      refine ⟨_, rfl, rfl, _, rfl, iteT ?_⟩
      refine ⟨_, rfl, (by show 1 ≤ sizeLine; decide), fun l2 hl2 => ?_⟩
      refine ⟨.list [.bool true], .list [.bool true], .lst (SqL.of (kep upd_same hl2)) (.cons (.bl true) .nil), .lst (SqL.of upd_same) (.cons (.bl true) .nil), one_sh, one_sh, ?_⟩
      rw [one_eqv]
      exact q _ ((s3.trans (same_new hl)).trans (same_new hl2))
def spUn (K : PySem.W.Frag) : Sp := fun vs H Q _ => ∃ (v : V) (d : PyData), vs = [v] ∧ D1 K H v d ∧ worthD d = false ∧ Okd d 10000 50 ∧ ∀ H', Same H H' → Q (.bl true) H'
theorem ok_un (T : Txt K mg) (R : Errs P K mg CN fN CW fW CM) (c_worth_text : CalX P w K mg base 3 "worth_text" (spText K CW)) (D : DefAt K mg "_law_unwritten" s__law_unwritten ["_law_thing"]) : CalG P w K mg base 5 "_law_unwritten" (spUn K) := by
  refine D.cal sc__law_unwritten (fun vs H Q E h => ?_) (fun f cdv A outer s H vs Q E hG hr h => ?_)
  · obtain ⟨v, d, rfl, _⟩ := h
    rfl
  · obtain ⟨v, d, rfl, hd, hw, hok, q⟩ := h
    refine ⟨_, (pss_cons (ps_set (i := 1) sc__law_unwritten.nd rfl (Or.inl rfl) pe_non)
      (pss_cons (ps_try_as (i := 2) (tb := fun W => tDrop (tCallS (spText K CW) (WE W) (tCons (tVar 0) tNil))) (ts := tsSuite K CW 1 2) (Wout := fun _ _ _ _ => False) rfl rfl sc__law_unwritten.nd rfl rfl ⟨rfl, by decide, Or.inl R.g_MakesError⟩ takes0 (fun W pn xe tk _ => pss_one (ps_expr (by exact (pe_gx c_worth_text hG (hr.mono (by decide)) rfl tk (by exact (pa_cons (pv 0) pa_nil)))))) (fun a oe cls d pn hz hf => pss_one (ps_set (i := 1) sc__law_unwritten.nd rfl (Or.inl rfl) (pe_lst (pa_cons (pe_and (pe_callB (call_isF R.e_NoWorth R.i_NoWorth hz hf) (by rfl) T.b_isinstance boot_isinstance_ (pa_cons (pv 2) (pa_cons (pe_glob (by rfl) R.g_NoWorth rfl) pa_nil))) (pe_one (pe_cmpR op_eq (pe_callB (call_repr hG (by have z := hu64 hr; exact z)) (by rfl) T.b_repr boot_repr_ (pa_cons (pe_found R.e_NoWorth hz hf (pv 2)) pa_nil)) (pe_callB (call_repr hG (by have z := hu64 hr; exact z)) (by rfl) T.b_repr boot_repr_ (pa_cons (pv 0) pa_nil)) (nomark _)))) pa_nil)))))
      (pss_one (ps_ret (pe_cmpR (op_eqD (hu64 hr)) (pv 1) (pe_lst (pa_cons pe_bl pa_nil)) (nomark _)))))), ?_⟩
    refine ⟨_, rfl, v, d, rfl, hd, fun n e hn => ?_, fun hn a ha => ?_⟩
    · rw [hw] at hn
      cases hn
    · refine ⟨true, R.m_NoWorth, fun _ a' ha' => ?_, fun z => nomatch z⟩
      have s3 : Same H (upd H a (.xd [("found", v)])) := same_new ha
      have hx : (upd H a (.xd [("found", v)])) a = some (.xd [("found", v)]) := upd_same
      generalize upd H a (.xd [("found", v)]) = H3 at *
      have hd3 : D2 K H3 v d := .d1 (d1Same s3 hd)
      have l1 : d.shown.length ≤ sizeLine := Nat.le_trans hok.ln (by decide)
      have l2 : d.depth ≤ 60 := Nat.le_trans hok.dp (by decide)
      refine ⟨_, rfl, .ref CW, .ref CW, true, a, v, rfl, rfl, rfl, hx, .own CW, R.k_NoWorth, _, rfl, iteT ?_⟩
      refine ⟨_, rfl, rfl, rfl, a, v, rfl, hx, v, d, rfl, hd3, hok.sh, l1, l2, ?_⟩
      refine ⟨_, rfl, v, d, rfl, hd3, hok.sh, l1, l2, rfl, ?_⟩
      rw [decide_eq_true rfl]
      refine ⟨(by show 1 ≤ sizeLine; decide), fun l hl => ?_⟩
      refine ⟨_, rfl, (by show 1 ≤ sizeLine; decide), fun l2 hl2 => ?_⟩
      refine ⟨.list [.bool true], .list [.bool true], .lst (SqL.of (kep upd_same hl2)) (.cons (.bl true) .nil), .lst (SqL.of upd_same) (.cons (.bl true) .nil), one_sh, one_sh, ?_⟩
      rw [one_eqv]
      exact q _ ((s3.trans (same_new hl)).trans (same_new hl2))
end
end Ky
set_option maxHeartbeats 1000000
namespace Ky
open PySem PySem.Spec PyProof.Rows L2 Gd Ge PySem.NumText TL
section
variable {P : Program} {w : World} {K : PySem.W.Frag} {mg : Str → Option Value} {base : Heap} {CN fN CW fW CM : Addr}
theorem ts_num {n : Int} (h : Wn n) : Ts (Str.ofString (toString n)) 40 := by
  have ht : top30 = 999999999999999999999999999999 := by decide
  have h1 := h.1
  have h2 := h.2
  rw [ht] at h1 h2
  have hp : (10 : Nat) ^ 30 = 1000000000000000000000000000000 := by decide
  have hl : (numL n.natAbs).length ≤ 30 := numL_len (by decide) (by omega)
  have hd : ∀ c ∈ numL n.natAbs, c < 128 := fun c hc => by
    have := numL_digits n.natAbs c hc
    omega
  by_cases h0 : n < 0
  · have e : (Str.ofString (toString n)).cps.toList = 45 :: numL n.natAbs := by
      have := tl_neg n.natAbs (by omega)
      have e6 : -(n.natAbs : Int) = n := by omega
      rw [e6] at this
      exact this
    constructor
    · rw [len_list, e, List.length_cons]
      omega
    · intro c hc
      rw [e] at hc
      rcases List.mem_cons.mp hc with rfl | hc
      · decide
      · exact hd c hc
  · have e : (Str.ofString (toString n)).cps.toList = numL n.natAbs := by
      have := tl_num n.natAbs
      have e6 : (n.natAbs : Int) = n := by omega
      rw [e6] at this
      exact this
    constructor
    · rw [len_list, e]
      omega
    · intro c hc
      rw [e] at hc
      exact hd c hc
theorem ok_ts {z : Str} (h : Ts z 200) : Okd (.str z) 2002 0 := okStr (by
  have h1 := StrLaws.reprText_len z (fun c hc => Nat.lt_trans (h.2 c hc) (by decide))
  have h2 := h.1
  omega)
theorem Ts.txt {z : Str} {n : Nat} (h : Ts z n) (k : n ≤ 1000) : TxtOk z := ⟨Nat.le_trans h.1 k, h.2⟩
theorem mem_1 {α : Type} {P : α → Prop} {x : α} (h : P x) : ∀ y ∈ [x], P y := by
  intro y hy
  rw [List.mem_singleton.mp hy]
  exact h
def spLaw (K : PySem.W.Frag) : Sp := fun vs H Q _ => ∃ (a : Addr) (ns : List Int), vs = [.ref a] ∧ SqL K H a (ns.map V.int) ∧ ns.length ≤ 63 ∧ ∀ H', Q (.bl true) H'
theorem ok_law (T : Txt K mg) {f : Addr} {fd : FuncData} (F : Fun K "law" "law" s_law f fd) (c__law_cell : CalG P w K mg base 1 "_law_cell" (spCell K)) (c__law_box : CalG P w K mg base 1 "_law_box" spBox)
    (c__law_take : CalG P w K mg base 1 "_law_take" spTake) (c__law_worth : CalG P w K mg base 2 "_law_worth" spNum) (c__law_figures : CalG P w K mg base 1 "_law_figures" spFig) (c_worth_text : CalX P w K mg base 3 "worth_text" (spText K CW))
    (c__law_read_right : CalG P w K mg base 5 "_law_read_right" (spRR K)) (c__law_spoilt : CalG P w K mg base 2 "_law_spoilt" spSpoilt) (c__law_unwritten : CalG P w K mg base 5 "_law_unwritten" (spUn K)) :
    FnG P w K mg base CX0 6 f fd ["_law_script"] (spLaw K) := by
  refine okG F sc_law (fun vs H Q E h => ?_) (fun cdv A outer s H vs Q E hG hr h => ?_)
  · obtain ⟨a, ns, rfl, _⟩ := h
    rfl
  · obtain ⟨a, ns, rfl, hS, hl, q⟩ := h
    refine ⟨_, (pss_cons (ps_for PassesOwn.never rfl (pi_range1 rfl T.b_range (pa_cons (pe_callB (call_max2 rfl) (by rfl) T.b_max boot_max_ (pa_cons pe_int (pa_cons (pe_callB (call_min2 rfl) (by rfl) T.b_min boot_min_ (pa_cons (pe_callB call_len (by rfl) T.b_len boot_len_ (pa_cons (pv 0) pa_nil)) (pa_cons pe_int pa_nil))) pa_nil))) pa_nil)) (pg_name (i := 1) sc_law.nd rfl (Or.inl rfl))
          (pss_cons (ps_set (i := 2) sc_law.nd rfl (Or.inl rfl) (pe_g c__law_box hG (hr.mono (by decide)) (by rfl) (pa_cons (pe_g c__law_cell hG (hr.mono (by decide)) (by rfl) (pa_cons (pv 0) (pa_cons (pv 1) pa_nil))) pa_nil)))
          (pss_cons (ps_set (i := 3) sc_law.nd rfl (Or.inl rfl) (pe_g c__law_worth hG (hr.mono (by decide)) (by rfl) (pa_cons (pv 2) pa_nil)))
          (pss_cons (ps_set (i := 4) sc_law.nd rfl (Or.inl rfl) (pe_g c__law_figures hG (hr.mono (by decide)) (by rfl) (pa_cons (pv 3) pa_nil)))
          (pss_cons (ps_if (PW.pt (pw_or (pt_cmpR op_ne (pe_callB (call_repr hG (hu64 hr)) (by rfl) T.b_repr boot_repr_ (pa_cons (pe_gN c_worth_text hG (hr.mono (by decide)) (by rfl) (pa_cons (pv 3) pa_nil)) pa_nil)) (pe_callB (call_repr hG (hu64 hr)) (by rfl) T.b_repr boot_repr_ (pa_cons (pv 4) pa_nil)) (nomark _)) (pw_or1 (pt_not (pt_val (pe_g c__law_read_right hG (hr.mono (by decide)) (by rfl) (pa_cons (pv 4) pa_nil)))))))
              (pss_one (ps_ret pe_bl)) pss_nil)
          (pss_cons (ps_for PassesOwn.never rfl (pi_range1 rfl T.b_range (pa_cons pe_int pa_nil)) (pg_name (i := 5) sc_law.nd rfl (Or.inl rfl))
              (pss_one (ps_if (pt_not (pt_val (pe_g c__law_read_right hG (hr.mono (by decide)) (by rfl) (pa_cons (pe_g c__law_spoilt hG (hr.mono (by decide)) (by rfl) (pa_cons (pv 2) (pa_cons (pv 4) pa_nil))) pa_nil))))
                  (pss_one (ps_ret pe_bl)) pss_nil)))
          (pss_cons (ps_set (i := 6) sc_law.nd rfl (Or.inl rfl) (pe_ix ix_list (pe_lst (pa_cons pe_non (pa_cons pe_int (pa_cons pe_bl (pa_cons (pe_lst (pa_cons (pv 4) pa_nil)) (pa_cons (pe_tup (pa_cons (pv 4) pa_nil)) (pa_cons pe_dnewK (pa_cons pe_str (pa_cons pe_str (pa_cons pe_str (pa_cons pe_str pa_nil))))))))))) (pe_g c__law_take hG (hr.mono (by decide)) (by rfl) (pa_cons (pv 2) (pa_cons pe_int pa_nil))) (fun _ _ => rfl)))
          (pss_cons (ps_if (pt_not (pt_val (pe_g c__law_read_right hG (hr.mono (by decide)) (by rfl) (pa_cons (pv 6) pa_nil))))
              (pss_one (ps_ret pe_bl)) pss_nil)
          (pss_cons (ps_set (i := 6) sc_law.nd rfl (Or.inl rfl) (pe_ix ix_list (pe_lst (pa_cons pe_non (pa_cons pe_bl (pa_cons pe_str (pa_cons (pe_op op_pow pe_int pe_int) (pa_cons (pe_op op_sub pe_int (pe_op op_pow pe_int pe_int)) (pa_cons (pe_lst (pa_cons pe_int pa_nil)) (pa_cons (pe_tup (pa_cons pe_int pa_nil)) (pa_cons pe_dnewK (pa_cons pe_bl (pa_cons (pe_op op_pow pe_int pe_int) pa_nil))))))))))) (pe_g c__law_take hG (hr.mono (by decide)) (by rfl) (pa_cons (pv 2) (pa_cons pe_int pa_nil))) (fun _ _ => rfl)))
          (pss_one (ps_if (pt_not (pt_val (pe_g c__law_unwritten hG (hr.mono (by decide)) (by rfl) (pa_cons (pv 6) pa_nil))))
              (pss_one (ps_ret pe_bl)) pss_nil)))))))))))
      (pss_one (ps_ret pe_bl))), ?_⟩
    refine ⟨_, rfl, .ref a, (ns.map V.int).length, rfl, .inl ⟨_, hS, rfl⟩, _, _, rfl, _, _, rfl, ?_⟩
    generalize hM : (if (if (40 : Int) < ((ns.map V.int).length : Nat) then (40 : Int) else ((ns.map V.int).length : Nat)) > 6 then (if (40 : Int) < ((ns.map V.int).length : Nat) then (40 : Int) else ((ns.map V.int).length : Nat)) else 6) = M
    have hM1 : 0 ≤ M ∧ M ≤ 63 := by
      rw [← hM, List.length_map]
      split <;> split <;> omega
    refine ⟨M, rfl, by omega, by omega, ?_⟩
    refine for_range (lo := 0) (n := M.toNat) (fun i σ H' => Same H H' ∧ ∃ y1 y2 y3 y4 y5 y6, σ = [some (.ref a), y1, y2, y3, y4, y5, y6])
      ⟨Same.refl _, none, none, none, none, none, none, rfl⟩ (fun i σ H' hi hP => ?_) (fun σ H' hP => q H')
    obtain ⟨sm, y1, y2, y3, y4, y5, y6, rfl⟩ := hP
    refine ⟨_, rfl, _, rfl, a, ns, _, rfl, sm.seq hS, hl, by omega, fun n => ⟨n, rfl, fun b H2 hb hB2 k2 => ?_⟩⟩
    have sm2 : Same H H2 := same_keep sm hb fun c o hc z => (k2 c hc).trans z
    have nb : ∀ c o, H c = some o → c ≠ b := fun c o z => ne_of_none (sm c o z) hb
    refine ⟨_, rfl, b, rfl, hB2, fun n H3 hn hB3 k3 => ?_⟩
    have sm3 : Same H H3 := fun c o z => k3 c o (nb c o z) (sm2 c o z)
    refine ⟨_, rfl, n, rfl, hn, ?_⟩
    have hz : Ts (Str.ofString (toString n)) 40 := ts_num hn
    generalize hzz : Str.ofString (toString n) = z at hz
    have hz2 : Ts z 200 := hz.up (by decide)
    have okz := ok_ts hz2
    refine ⟨_, rfl, .int n, .int n, rfl, .dp (.int n), fun m e _ => ?_, fun hw => ?_⟩
    · cases e
      rw [hzz]
      refine ⟨_, _, rfl, .d1 (.dp (.str z)), okz.sh, Nat.le_trans okz.ln (by decide), Nat.le_trans okz.dp (by decide), ?_⟩
      refine ⟨_, rfl, _, _, rfl, .d1 (.dp (.str z)), okz.sh, Nat.le_trans okz.ln (by decide), Nat.le_trans okz.dp (by decide), rfl, _, rfl, ifSame ?_⟩
      refine ⟨_, rfl, _, _, rfl, .dp (.str z), fun y e => by cases e; exact hz.txt (by decide), okz.up (by decide) (by decide), fun H4 s4 => ⟨_, rfl, iteF ?_⟩⟩
      have sm4 : Same H H4 := sm3.trans s4
      have hB4 := boxSame hB3 s4
      refine ⟨3, rfl, by decide, by decide, ?_⟩
      refine for_range (lo := 0) (n := 3) (fun j σ H5 => Same H H5 ∧ BoxAt H5 b ∧ ∃ y5 y6, σ = [some (.ref a), some (.int (0 + i)), some (.ref b), some (.int n), some (.str z), y5, y6])
        ⟨sm4, hB4, y5, y6, rfl⟩ (fun j σ H5 hj hP => ?_) (fun σ H5 hP => ?_)
      · obtain ⟨sm5, hB5, w5, w6, rfl⟩ := hP
        refine ⟨_, rfl, _, rfl, b, z, rfl, hB5, hz, fun y H6 hy hB6 k6 => ?_⟩
        have sm6 : Same H H6 := fun c o z => k6 c o (nb c o z) (sm5 c o z)
        refine ⟨.str y, .str y, rfl, .dp (.str y), fun y2 e => by cases e; exact hy.txt (by decide), (ok_ts hy).up (by decide) (by decide), fun H7 s7 => ⟨_, rfl, iteF ?_⟩⟩
        exact ⟨sm6.trans s7, boxSame hB6 s7, _, _, rfl⟩
      · obtain ⟨sm5, hB5, w5, w6, rfl⟩ := hP
        refine ⟨_, rfl, (by show 1 ≤ sizeLine; decide), fun p1 n1 => ?_⟩
        refine ⟨_, rfl, (by show 1 ≤ sizeLine; decide), fun p2 n2 => ?_⟩
        intro p3 n3
        refine ⟨(by show 10 ≤ sizeLine; decide), fun p4 n4 => ?_⟩
        have B1 := hB5.upd (o := .lst [.str z]) n1
        have B2 := B1.upd (o := .tup [.str z]) n2
        have B3 := B2.upd (o := .dK []) n3
        refine ⟨_, rfl, b, 10, rfl, B3.upd n4, by decide, by decide, fun d3 H8 g0 g1 hB8 k8 => ?_⟩
        have hL8 := (k8 p4 (B3.ne n4)).trans upd_same
        obtain ⟨v, hv, hat⟩ := pickL [.non, .int 7, .bl true, .ref p1, .ref p2, .ref p3, .str (Str.ofString ""), .str (Str.ofString "-"), .str (Str.ofString "-0"), .str (Str.ofString "00")] g0 (by show d3 < ((10 : Nat) : Int); omega)
        refine ⟨p4, _, d3, v, rfl, rfl, SqL.of hL8, hat, ?_⟩
        have e1 : H8 p1 = some (.lst [.str z]) := (k8 _ (hB5.ne n1)).trans (kep (kep (kep upd_same n2) n3) n4)
        have e2 : H8 p2 = some (.tup [.str z]) := (k8 _ (B1.ne n2)).trans (kep (kep upd_same n3) n4)
        have e3 : H8 p3 = some (.dK []) := (k8 _ (B2.ne n3)).trans (kep upd_same n4)
        have K8 := ((((Kp.refl (b := b) (H := H5)).upd (o := .lst [.str z]) n1).upd (o := .tup [.str z]) n2).upd (o := .dK []) n3).upd (o := .lst [.non, .int 7, .bl true, .ref p1, .ref p2, .ref p3, .str (Str.ofString ""), .str (Str.ofString "-"), .str (Str.ofString "-0"), .str (Str.ofString "00")]) n4
        have sm8 : Same H H8 := fun c o z => (k8 c (nb c o z)).trans (K8 c o (nb c o z) (sm5 c o z))
        have ht : ∀ y : Str, Ts y 200 → ∃ d, D1 K H8 (.str y) d ∧ (∀ z, d = .str z → TxtOk z) ∧ Okd d 10000 50 := fun y hy =>
          ⟨.str y, .dp (.str y), fun y2 e => by cases e; exact hy.txt (by decide), (ok_ts hy).up (by decide) (by decide)⟩
        have hd : ∃ d, D1 K H8 v d ∧ (∀ z, d = .str z → TxtOk z) ∧ Okd d 10000 50 := by
          simp only [List.mem_cons, List.not_mem_nil, or_false] at hv
          rcases hv with rfl | rfl | rfl | rfl | rfl | rfl | rfl | rfl | rfl | rfl
          · exact ⟨_, .dp .non, (fun _ e => nomatch e), okNone.up (by decide) (by decide)⟩
          · exact ⟨_, .dp (.int 7), (fun _ e => nomatch e), (okInt ⟨by decide, by decide⟩).up (by decide) (by decide)⟩
          · exact ⟨_, .dp (.bl true), (fun _ e => nomatch e), (okBool _).up (by decide) (by decide)⟩
          · exact ⟨_, .dp (.lst (SqL.of e1) (.cons (.str z) .nil)), (fun _ e => nomatch e), (okList (n := 1) (mem_1 okz) (Nat.le_refl 1)).up (by decide) (by decide)⟩
          · exact ⟨_, .dp (.tup (SqT.of e2) (.cons (.str z) .nil)), (fun _ e => nomatch e), (okTuple (n := 1) (mem_1 okz) (Nat.le_refl 1)).up (by decide) (by decide)⟩
          · exact ⟨_, .emp e3, (fun _ e => nomatch e), okEmp.up (by decide) (by decide)⟩
          all_goals exact ht _ ⟨by decide +kernel, by decide +kernel⟩
        obtain ⟨d, hd, htx, hok⟩ := hd
        refine ⟨_, rfl, v, d, rfl, hd, htx, hok, fun H9 s9 => ⟨_, rfl, iteF ?_⟩⟩
        have sm9 := sm8.trans s9
        have hB9 := boxSame hB8 s9
        refine ⟨_, _, rfl, rfl, ⟨by decide, by decide, by decide⟩, ?_⟩
        refine ⟨_, _, rfl, rfl, ⟨by decide, by decide, by decide⟩, _, _, rfl, rfl, ?_⟩
        refine ⟨(by show 1 ≤ sizeLine; decide), fun p5 n5 => ?_⟩
        refine ⟨(by show 1 ≤ sizeLine; decide), fun p6 n6 => ?_⟩
        intro p7 n7
        refine ⟨_, _, rfl, rfl, ⟨by decide, by decide, by decide⟩, (by show 10 ≤ sizeLine; decide), fun p8 n8 => ?_⟩
        have B5 := hB9.upd (o := .lst [.int 7]) n5
        have B6 := B5.upd (o := .tup [.int 7]) n6
        have B7 := B6.upd (o := .dK []) n7
        refine ⟨_, rfl, b, 10, rfl, B7.upd n8, by decide, by decide, fun d4 H10 f0 f1 hB10 k10 => ?_⟩
        have hL10 := (k10 p8 (B7.ne n8)).trans upd_same
        obtain ⟨v2, hv2, hat2⟩ := pickL [.non, .bl true, .str (Str.ofString "7"), .int (10 ^ (30 : Int).toNat), .int (0 - 10 ^ (30 : Int).toNat), .ref p5, .ref p6, .ref p7, .bl false, .int (10 ^ (39 : Int).toNat)] f0 (by show d4 < ((10 : Nat) : Int); omega)
        refine ⟨p8, _, d4, v2, rfl, rfl, SqL.of hL10, hat2, ?_⟩
        have e5 : H10 p5 = some (.lst [.int 7]) := (k10 _ (hB9.ne n5)).trans (kep (kep (kep upd_same n6) n7) n8)
        have e6 : H10 p6 = some (.tup [.int 7]) := (k10 _ (B5.ne n6)).trans (kep (kep upd_same n7) n8)
        have e7 : H10 p7 = some (.dK []) := (k10 _ (B6.ne n7)).trans (kep upd_same n8)
        have K10 := ((((Kp.refl (b := b) (H := H9)).upd (o := .lst [.int 7]) n5).upd (o := .tup [.int 7]) n6).upd (o := .dK []) n7).upd (o := .lst [.non, .bl true, .str (Str.ofString "7"), .int (10 ^ (30 : Int).toNat), .int (0 - 10 ^ (30 : Int).toNat), .ref p5, .ref p6, .ref p7, .bl false, .int (10 ^ (39 : Int).toNat)]) n8
        have sm10 : Same H H10 := fun c o z => (k10 c (nb c o z)).trans (K10 c o (nb c o z) (sm9 c o z))
        have ok7 : Okd (.int 7) 50 0 := okInt ⟨by decide, by decide⟩
        have hd2 : ∃ d, D1 K H10 v2 d ∧ worthD d = false ∧ Okd d 10000 50 := by
          simp only [List.mem_cons, List.not_mem_nil, or_false] at hv2
          rcases hv2 with rfl | rfl | rfl | rfl | rfl | rfl | rfl | rfl | rfl | rfl
          · exact ⟨_, .dp .non, rfl, okNone.up (by decide) (by decide)⟩
          · exact ⟨_, .dp (.bl true), rfl, (okBool _).up (by decide) (by decide)⟩
          · exact ⟨_, .dp (.str _), rfl, (ok_ts (z := Str.ofString "7") ⟨by decide +kernel, by decide +kernel⟩).up (by decide) (by decide)⟩
          · exact ⟨_, .dp (.int _), by decide, (okInt ⟨by decide, by decide⟩).up (by decide) (by decide)⟩
          · exact ⟨_, .dp (.int _), by decide, (okInt ⟨by decide, by decide⟩).up (by decide) (by decide)⟩
          · exact ⟨_, .dp (.lst (SqL.of e5) (.cons (.int 7) .nil)), rfl, (okList (n := 1) (mem_1 ok7) (Nat.le_refl 1)).up (by decide) (by decide)⟩
          · exact ⟨_, .dp (.tup (SqT.of e6) (.cons (.int 7) .nil)), rfl, (okTuple (n := 1) (mem_1 ok7) (Nat.le_refl 1)).up (by decide) (by decide)⟩
          · exact ⟨_, .emp e7, rfl, okEmp.up (by decide) (by decide)⟩
          · exact ⟨_, .dp (.bl false), rfl, (okBool _).up (by decide) (by decide)⟩
          · exact ⟨_, .dp (.int _), by decide, (okInt ⟨by decide, by decide⟩).up (by decide) (by decide)⟩
        obtain ⟨d2, hd2, hw2, hok2⟩ := hd2
        refine ⟨_, rfl, v2, d2, rfl, hd2, hw2, hok2, fun H11 s11 => ⟨_, rfl, iteF ?_⟩⟩
        exact ⟨sm10.trans s11, _, _, _, _, _, _, rfl⟩
    · rw [wn_worth hn] at hw
      cases hw
end
end Ky
namespace Ky
open PySem PySem.Spec PyProof.Rows L2 Gd Ge PySem.NumText
theorem exm_above {K : PySem.W.Frag} {S M : Addr} (up : PySem.W.subIn K (.ref S) (.ref M) = some true) (isC : PySem.W.isClsIn K M = true) (meta_ : PySem.W.typeIn K (.ref M) = some (.type "type"))
    (exc : PySem.W.subIn K (.ref M) (.type "BaseException") = some true) : PySem.W.exmOne K (.ref S) (.ref M) = some true := by
  unfold PySem.W.isClsIn at isC
  simp [PySem.W.exmOne, PySem.W.kitCls, exc, meta_, isC, up]
theorem kit_self {K : PySem.W.Frag} {S : Addr} : PySem.W.kitOne K (.ref S) (.ref S) = some true := by
  simp [PySem.W.kitOne]
theorem all_mk {l : PySem.W.OpenLaw} {w : World} {K : PySem.W.Frag} {h : Heap} {mg : Str → Option Value} {fa CM f0 f1 f2 f3 f4 f5 f6 f7 f8 f9 f10 f11 f12 f13 f14 : Addr} (X : K.In h) (G : h.Ns mainGlobals mg) (hfa : mg "law" = some (.ref fa))
    {od0 an0 od1 an1 od2 an2 od3 an3 od4 an4 od5 an5 od6 an6 od7 an7 od8 an8 od9 an9 od10 an10 od11 an11 od12 an12 od13 an13 od14 an14 : Option Addr} {sl0 sl1 sl2 sl3 sl4 sl5 sl6 sl7 sl8 sl9 sl10 sl11 sl12 sl13 sl14 : Array (Option Value)}
    {oc0 kV0 dc0 pm0 cd0 ct0 oc1 kV1 dc1 pm1 cd1 ct1 oc2 kV2 dc2 pm2 cd2 ct2 oc3 kV3 dc3 pm3 cd3 ct3 oc4 kV4 dc4 pm4 cd4 ct4 oc5 kV5 dc5 pm5 cd5 ct5 oc6 kV6 dc6 pm6 cd6 ct6 oc7 kV7 dc7 pm7 cd7 ct7 oc8 kV8 dc8 pm8 cd8 ct8 oc9 kV9 dc9 pm9 cd9 ct9 oc10 kV10 dc10 pm10 cd10 ct10 oc11 kV11 dc11 pm11 cd11 ct11 oc12 kV12 dc12 pm12 cd12 ct12 oc13 kV13 dc13 pm13 cd13 ct13 oc14 kV14 dc14 pm14 cd14 ct14 : Value} {t_MOST_WORTH t_MOST_FIGURES t_FIGURES : Tok}
    {nmN qN fileN : Str} {CN fN NN cdaN ccN : Addr} {bsN subN : List Value} {snN : List Str} {abN : Bool} {colN : Option Bool} {ddN odN anN cddN cldN : Option Addr} {m0N m1N m2N m3N m5N : Option Value} {ocN dcN pmN ctN cclN clN : Value} {slN ccsN cslN : Array (Option Value)} {vsN : Array Value} {tfN : Tok} {kdN : Nat} {r1N r2N p1N p2N p3N p4N p5N p6N q1N q2N q3N q4N : Pos}
    {nmW qW fileW : Str} {CW fW NW cdaW ccW : Addr} {bsW subW : List Value} {snW : List Str} {abW : Bool} {colW : Option Bool} {ddW odW anW cddW cldW : Option Addr} {m0W m1W m2W m3W m5W : Option Value} {ocW dcW pmW ctW cclW clW : Value} {slW ccsW cslW : Array (Option Value)} {vsW : Array Value} {tfW : Tok} {kdW : Nat} {r1W r2W p1W p2W p3W p4W p5W p6W q1W q2W q3W q4W : Pos}
    (a0 : PySem.W.nsIn K mainGlobals "is_whole" = some (some (.ref f0)))
    (l0 : K.lookup f0 = some ⟨oc0, od0, .func (PySem.W.fnOf "is_whole" "is_whole" (defArgs s_is_whole) (defBody s_is_whole) (defScope s_is_whole) .none kV0 dc0 pm0 an0 cd0 ct0), sl0⟩)
    (c0 : PySem.W.codeIn K cd0 "is_whole" = true) (k0 : PySem.W.keepIn K (.ref f0) = true)
    (a1 : PySem.W.nsIn K mainGlobals "is_worth" = some (some (.ref f1)))
    (l1 : K.lookup f1 = some ⟨oc1, od1, .func (PySem.W.fnOf "is_worth" "is_worth" (defArgs s_is_worth) (defBody s_is_worth) (defScope s_is_worth) .none kV1 dc1 pm1 an1 cd1 ct1), sl1⟩)
    (c1 : PySem.W.codeIn K cd1 "is_worth" = true) (k1 : PySem.W.keepIn K (.ref f1) = true)
    (a2 : PySem.W.nsIn K mainGlobals "worth_text" = some (some (.ref f2)))
    (l2 : K.lookup f2 = some ⟨oc2, od2, .func (PySem.W.fnOf "worth_text" "worth_text" (defArgs s_worth_text) (defBody s_worth_text) (defScope s_worth_text) .none kV2 dc2 pm2 an2 cd2 ct2), sl2⟩)
    (c2 : PySem.W.codeIn K cd2 "worth_text" = true) (k2 : PySem.W.keepIn K (.ref f2) = true)
    (a3 : PySem.W.nsIn K mainGlobals "read_worth" = some (some (.ref f3)))
    (l3 : K.lookup f3 = some ⟨oc3, od3, .func (PySem.W.fnOf "read_worth" "read_worth" (defArgs s_read_worth) (defBody s_read_worth) (defScope s_read_worth) .none kV3 dc3 pm3 an3 cd3 ct3), sl3⟩)
    (c3 : PySem.W.codeIn K cd3 "read_worth" = true) (k3 : PySem.W.keepIn K (.ref f3) = true)
    (a4 : PySem.W.nsIn K mainGlobals "_is_worth_text" = some (some (.ref f4)))
    (l4 : K.lookup f4 = some ⟨oc4, od4, .func (PySem.W.fnOf "_is_worth_text" "_is_worth_text" (defArgs s__is_worth_text) (defBody s__is_worth_text) (defScope s__is_worth_text) .none kV4 dc4 pm4 an4 cd4 ct4), sl4⟩)
    (c4 : PySem.W.codeIn K cd4 "_is_worth_text" = true) (k4 : PySem.W.keepIn K (.ref f4) = true)
    (a5 : PySem.W.nsIn K mainGlobals "_law_cell" = some (some (.ref f5)))
    (l5 : K.lookup f5 = some ⟨oc5, od5, .func (PySem.W.fnOf "_law_cell" "_law_cell" (defArgs s__law_cell) (defBody s__law_cell) (defScope s__law_cell) .none kV5 dc5 pm5 an5 cd5 ct5), sl5⟩)
    (c5 : PySem.W.codeIn K cd5 "_law_cell" = true) (k5 : PySem.W.keepIn K (.ref f5) = true)
    (a6 : PySem.W.nsIn K mainGlobals "_law_box" = some (some (.ref f6)))
    (l6 : K.lookup f6 = some ⟨oc6, od6, .func (PySem.W.fnOf "_law_box" "_law_box" (defArgs s__law_box) (defBody s__law_box) (defScope s__law_box) .none kV6 dc6 pm6 an6 cd6 ct6), sl6⟩)
    (c6 : PySem.W.codeIn K cd6 "_law_box" = true) (k6 : PySem.W.keepIn K (.ref f6) = true)
    (a7 : PySem.W.nsIn K mainGlobals "_law_take" = some (some (.ref f7)))
    (l7 : K.lookup f7 = some ⟨oc7, od7, .func (PySem.W.fnOf "_law_take" "_law_take" (defArgs s__law_take) (defBody s__law_take) (defScope s__law_take) .none kV7 dc7 pm7 an7 cd7 ct7), sl7⟩)
    (c7 : PySem.W.codeIn K cd7 "_law_take" = true) (k7 : PySem.W.keepIn K (.ref f7) = true)
    (a8 : PySem.W.nsIn K mainGlobals "_law_worth" = some (some (.ref f8)))
    (l8 : K.lookup f8 = some ⟨oc8, od8, .func (PySem.W.fnOf "_law_worth" "_law_worth" (defArgs s__law_worth) (defBody s__law_worth) (defScope s__law_worth) .none kV8 dc8 pm8 an8 cd8 ct8), sl8⟩)
    (c8 : PySem.W.codeIn K cd8 "_law_worth" = true) (k8 : PySem.W.keepIn K (.ref f8) = true)
    (a9 : PySem.W.nsIn K mainGlobals "_law_figures" = some (some (.ref f9)))
    (l9 : K.lookup f9 = some ⟨oc9, od9, .func (PySem.W.fnOf "_law_figures" "_law_figures" (defArgs s__law_figures) (defBody s__law_figures) (defScope s__law_figures) .none kV9 dc9 pm9 an9 cd9 ct9), sl9⟩)
    (c9 : PySem.W.codeIn K cd9 "_law_figures" = true) (k9 : PySem.W.keepIn K (.ref f9) = true)
    (a10 : PySem.W.nsIn K mainGlobals "_law_due" = some (some (.ref f10)))
    (l10 : K.lookup f10 = some ⟨oc10, od10, .func (PySem.W.fnOf "_law_due" "_law_due" (defArgs s__law_due) (defBody s__law_due) (defScope s__law_due) .none kV10 dc10 pm10 an10 cd10 ct10), sl10⟩)
    (c10 : PySem.W.codeIn K cd10 "_law_due" = true) (k10 : PySem.W.keepIn K (.ref f10) = true)
    (a11 : PySem.W.nsIn K mainGlobals "_law_spoilt" = some (some (.ref f11)))
    (l11 : K.lookup f11 = some ⟨oc11, od11, .func (PySem.W.fnOf "_law_spoilt" "_law_spoilt" (defArgs s__law_spoilt) (defBody s__law_spoilt) (defScope s__law_spoilt) .none kV11 dc11 pm11 an11 cd11 ct11), sl11⟩)
    (c11 : PySem.W.codeIn K cd11 "_law_spoilt" = true) (k11 : PySem.W.keepIn K (.ref f11) = true)
    (a12 : PySem.W.nsIn K mainGlobals "_law_read_right" = some (some (.ref f12)))
    (l12 : K.lookup f12 = some ⟨oc12, od12, .func (PySem.W.fnOf "_law_read_right" "_law_read_right" (defArgs s__law_read_right) (defBody s__law_read_right) (defScope s__law_read_right) .none kV12 dc12 pm12 an12 cd12 ct12), sl12⟩)
    (c12 : PySem.W.codeIn K cd12 "_law_read_right" = true) (k12 : PySem.W.keepIn K (.ref f12) = true)
    (a13 : PySem.W.nsIn K mainGlobals "_law_unwritten" = some (some (.ref f13)))
    (l13 : K.lookup f13 = some ⟨oc13, od13, .func (PySem.W.fnOf "_law_unwritten" "_law_unwritten" (defArgs s__law_unwritten) (defBody s__law_unwritten) (defScope s__law_unwritten) .none kV13 dc13 pm13 an13 cd13 ct13), sl13⟩)
    (c13 : PySem.W.codeIn K cd13 "_law_unwritten" = true) (k13 : PySem.W.keepIn K (.ref f13) = true)
    (a14 : PySem.W.nsIn K mainGlobals "law" = some (some (.ref f14)))
    (l14 : K.lookup f14 = some ⟨oc14, od14, .func (PySem.W.fnOf "law" "law" (defArgs s_law) (defBody s_law) (defScope s_law) .none kV14 dc14 pm14 an14 cd14 ct14), sl14⟩)
    (c14 : PySem.W.codeIn K cd14 "law" = true) (k14 : PySem.W.keepIn K (.ref f14) = true)
    (z_len : PySem.W.nsIn K mainGlobals "len" = some none)
    (z_max : PySem.W.nsIn K mainGlobals "max" = some none)
    (z_min : PySem.W.nsIn K mainGlobals "min" = some none)
    (z_abs : PySem.W.nsIn K mainGlobals "abs" = some none)
    (z_all : PySem.W.nsIn K mainGlobals "all" = some none)
    (z_range : PySem.W.nsIn K mainGlobals "range" = some none)
    (z_repr : PySem.W.nsIn K mainGlobals "repr" = some none)
    (z_isinstance : PySem.W.nsIn K mainGlobals "isinstance" = some none)
    (z_int : PySem.W.nsIn K mainGlobals "int" = some none)
    (z_bool : PySem.W.nsIn K mainGlobals "bool" = some none)
    (z_str : PySem.W.nsIn K mainGlobals "str" = some none)
    (i_MOST_WORTH : PySem.W.nsIn K mainGlobals "MOST_WORTH" = some (some (.int (10 ^ 30 - 1) t_MOST_WORTH)))
    (i_MOST_FIGURES : PySem.W.nsIn K mainGlobals "MOST_FIGURES" = some (some (.int 30 t_MOST_FIGURES)))
    (i_FIGURES : PySem.W.nsIn K mainGlobals "FIGURES" = some (some (.str "0123456789" t_FIGURES)))
    (aM : PySem.W.nsIn K mainGlobals "MakesError" = some (some (.ref CM)))
    (iM : PySem.W.isClsIn K CM = true)
    (yM : PySem.W.typeIn K (.ref CM) = some (.type "type"))
    (eM : PySem.W.subIn K (.ref CM) (.type "BaseException") = some true)
    (op : PySem.W.nsIn K cStatics "thirdparty.any" = some none)
    (zs : PySem.W.nsIn K mainGlobals "super" = some none)
    (htop : (l.prog.main.scope.names.lookup ("super" : Str)).isSome = false)
    (aN : PySem.W.nsIn K mainGlobals "NoNumber" = some (some (.ref CN)))
    (xN : K.lookup CN = some (excClassObj nmN qN CN NN bsN [.ref CM, .type "ValueError", .type "Exception", .type "BaseException", .type "object"] true snN subN abN colN ddN m0N m1N m2N m3N m5N "ValueError.__new__"))
    (saN : PySem.W.findIn K (.ref CN) "__setattr__" = some (some (.builtin "object.__setattr__")))
    (gaN : PySem.W.findIn K (.ref CN) "__getattribute__" = some (some (.builtin "BaseException.__getattribute__")))
    (ggN : PySem.W.findIn K (.ref CN) "__getattr__" = some none)
    (nnN : PySem.W.findIn K (.ref CN) "found" = some none)
    (iiN : PySem.W.findIn K (.ref CN) "__init__" = some (some (.ref fN)))
    (ttN : PySem.W.typeIn K (.ref fN) = some (.type "function"))
    (kkN : PySem.W.keepIn K (.ref CN) = true)
    (eeN : PySem.W.subIn K (.ref CN) (.type "BaseException") = some true)
    (veN : PySem.W.subIn K (.ref CN) (.type "ValueError") = some true)
    (tyN : PySem.W.typeIn K (.ref CN) = some (.type "type"))
    (hdN : PySem.W.hasDictIn K CN = true)
    (mmN : PySem.W.mroIn K CN (.ref CN) = some true)
    (suN : PySem.W.ks_superIn K CN CN "__init__" = some (some (.builtin "ValueError.__init__")))
    (llN : K.lookup fN = some ⟨ocN, odN, .func (PySem.W.ksFn "__init__" "NoNumber.__init__" (Ge.iA r1N r2N) (Ge.iB "this is no such number" kdN p1N p2N p3N p4N p5N p6N q1N q2N q3N q4N) Ge.iS .none .none dcN pmN anN (.ref cdaN) ctN ccN), slN⟩)
    (ciN : PySem.W.codeIn K (.ref cdaN) "NoNumber.__init__" = true)
    (dlN : K.lookup cdaN = some ⟨cclN, cddN, .fields vsN, ccsN⟩)
    (fvN : vsN[2]? = some (.str fileN tfN))
    (flN : ((l.prog.main.file : Str) == fileN) = true)
    (zcN : K.lookup ccN = some ⟨clN, cldN, .cell (some (.ref CN)), cslN⟩)
    (plN : (p3N.endLine == p5N.line) = true)
    (h1N : PySem.W.findIn K (.ref CN) "__class__" = some (some (.builtin "object.__class__")))
    (h2N : PySem.W.specialIn K (.builtin "object.__class__") "__get__" = some (some (.builtin "getset_descriptor.__get__")))
    (h3N : PySem.W.takesIn K (.builtin "object.__class__") = some true)
    (h4N : PySem.W.mroIn K CN (.type "object") = some true)
    (smN : PySem.W.subIn K (.ref CN) (.ref CM) = some true)
    (aW : PySem.W.nsIn K mainGlobals "NoWorth" = some (some (.ref CW)))
    (xW : K.lookup CW = some (excClassObj nmW qW CW NW bsW [.ref CM, .type "ValueError", .type "Exception", .type "BaseException", .type "object"] true snW subW abW colW ddW m0W m1W m2W m3W m5W "ValueError.__new__"))
    (saW : PySem.W.findIn K (.ref CW) "__setattr__" = some (some (.builtin "object.__setattr__")))
    (gaW : PySem.W.findIn K (.ref CW) "__getattribute__" = some (some (.builtin "BaseException.__getattribute__")))
    (ggW : PySem.W.findIn K (.ref CW) "__getattr__" = some none)
    (nnW : PySem.W.findIn K (.ref CW) "found" = some none)
    (iiW : PySem.W.findIn K (.ref CW) "__init__" = some (some (.ref fW)))
    (ttW : PySem.W.typeIn K (.ref fW) = some (.type "function"))
    (kkW : PySem.W.keepIn K (.ref CW) = true)
    (eeW : PySem.W.subIn K (.ref CW) (.type "BaseException") = some true)
    (veW : PySem.W.subIn K (.ref CW) (.type "ValueError") = some true)
    (tyW : PySem.W.typeIn K (.ref CW) = some (.type "type"))
    (hdW : PySem.W.hasDictIn K CW = true)
    (mmW : PySem.W.mroIn K CW (.ref CW) = some true)
    (suW : PySem.W.ks_superIn K CW CW "__init__" = some (some (.builtin "ValueError.__init__")))
    (llW : K.lookup fW = some ⟨ocW, odW, .func (PySem.W.ksFn "__init__" "NoWorth.__init__" (Ge.iA r1W r2W) (Ge.iB "this is no worth" kdW p1W p2W p3W p4W p5W p6W q1W q2W q3W q4W) Ge.iS .none .none dcW pmW anW (.ref cdaW) ctW ccW), slW⟩)
    (ciW : PySem.W.codeIn K (.ref cdaW) "NoWorth.__init__" = true)
    (dlW : K.lookup cdaW = some ⟨cclW, cddW, .fields vsW, ccsW⟩)
    (fvW : vsW[2]? = some (.str fileW tfW))
    (flW : ((l.prog.main.file : Str) == fileW) = true)
    (zcW : K.lookup ccW = some ⟨clW, cldW, .cell (some (.ref CW)), cslW⟩)
    (plW : (p3W.endLine == p5W.line) = true)
    (h1W : PySem.W.findIn K (.ref CW) "__class__" = some (some (.builtin "object.__class__")))
    (h2W : PySem.W.specialIn K (.builtin "object.__class__") "__get__" = some (some (.builtin "getset_descriptor.__get__")))
    (h3W : PySem.W.takesIn K (.builtin "object.__class__") = some true)
    (h4W : PySem.W.mroIn K CW (.type "object") = some true)
    (smW : PySem.W.subIn K (.ref CW) (.ref CM) = some true)
    : ∃ fd : FuncData, (∀ (s : Shared) (v : Value), BindsTo s fd ⟨[v], []⟩ [("_law_script", v)]) ∧ ∀ base : Heap, K.In base → base.Ns mainGlobals mg → FnG l.prog w K mg base CX0 6 fa fd ["_law_script"] (spLaw K) := by
  have e := hfa.symm.trans (PySem.W.mg_of X G a14)
  cases e
  have d_is_whole : DefAt K mg "is_whole" s_is_whole ["thing", "low", "high"] := defAt (PySem.W.mg_of X G a0) l0 c0 k0 (fun _ _ _ _ _ _ us hl => match us, hl with | [_, _, _], _ => rfl)
  have d_is_worth : DefAt K mg "is_worth" s_is_worth ["thing"] := defAt (PySem.W.mg_of X G a1) l1 c1 k1 (fun _ _ _ _ _ _ us hl => match us, hl with | [_], _ => rfl)
  have d_worth_text : DefAt K mg "worth_text" s_worth_text ["worth"] := defAt (PySem.W.mg_of X G a2) l2 c2 k2 (fun _ _ _ _ _ _ us hl => match us, hl with | [_], _ => rfl)
  have d_read_worth : DefAt K mg "read_worth" s_read_worth ["text"] := defAt (PySem.W.mg_of X G a3) l3 c3 k3 (fun _ _ _ _ _ _ us hl => match us, hl with | [_], _ => rfl)
  have d__is_worth_text : DefAt K mg "_is_worth_text" s__is_worth_text ["thing"] := defAt (PySem.W.mg_of X G a4) l4 c4 k4 (fun _ _ _ _ _ _ us hl => match us, hl with | [_], _ => rfl)
  have d__law_cell : DefAt K mg "_law_cell" s__law_cell ["_law_script", "_law_k"] := defAt (PySem.W.mg_of X G a5) l5 c5 k5 (fun _ _ _ _ _ _ us hl => match us, hl with | [_, _], _ => rfl)
  have d__law_box : DefAt K mg "_law_box" s__law_box ["_law_cell_here"] := defAt (PySem.W.mg_of X G a6) l6 c6 k6 (fun _ _ _ _ _ _ us hl => match us, hl with | [_], _ => rfl)
  have d__law_take : DefAt K mg "_law_take" s__law_take ["_law_box_here", "_law_many"] := defAt (PySem.W.mg_of X G a7) l7 c7 k7 (fun _ _ _ _ _ _ us hl => match us, hl with | [_, _], _ => rfl)
  have d__law_worth : DefAt K mg "_law_worth" s__law_worth ["_law_box_here"] := defAt (PySem.W.mg_of X G a8) l8 c8 k8 (fun _ _ _ _ _ _ us hl => match us, hl with | [_], _ => rfl)
  have d__law_figures : DefAt K mg "_law_figures" s__law_figures ["_law_number"] := defAt (PySem.W.mg_of X G a9) l9 c9 k9 (fun _ _ _ _ _ _ us hl => match us, hl with | [_], _ => rfl)
  have d__law_due : DefAt K mg "_law_due" s__law_due ["_law_thing"] := defAt (PySem.W.mg_of X G a10) l10 c10 k10 (fun _ _ _ _ _ _ us hl => match us, hl with | [_], _ => rfl)
  have d__law_spoilt : DefAt K mg "_law_spoilt" s__law_spoilt ["_law_box_here", "_law_text"] := defAt (PySem.W.mg_of X G a11) l11 c11 k11 (fun _ _ _ _ _ _ us hl => match us, hl with | [_, _], _ => rfl)
  have d__law_read_right : DefAt K mg "_law_read_right" s__law_read_right ["_law_thing"] := defAt (PySem.W.mg_of X G a12) l12 c12 k12 (fun _ _ _ _ _ _ us hl => match us, hl with | [_], _ => rfl)
  have d__law_unwritten : DefAt K mg "_law_unwritten" s__law_unwritten ["_law_thing"] := defAt (PySem.W.mg_of X G a13) l13 c13 k13 (fun _ _ _ _ _ _ us hl => match us, hl with | [_], _ => rfl)
  have F_law := fun_mk (st := s_law) l14 c14 k14
  have EN : ErrTxt l.prog K CN fN "NoNumber.__init__" _ :=
    { cls := ⟨nmN, qN, NN, bsN, _, snN, subN, abN, colN, ddN, m0N, m1N, m2N, m3N, m5N, xN, by rfl⟩, sa := saN, ga := gaN, gg := ggN, noN := nnN, iC := iiN, tC := ttN, kC := kkN, exC := eeN, veC := veN, tyC := tyN, hdC := hdN, sub := mmN, sup := suN, op := op, zs := zs, htop := htop,
      fn := ⟨ocN, odN, dcN, pmN, anN, cdaN, ccN, ctN, slN, kdN, p1N, p2N, p3N, p4N, p5N, p6N, q1N, q2N, q3N, q4N, r1N, r2N, cclN, clN, cddN, cldN, vsN, ccsN, cslN, fileN, tfN, llN, ciN, dlN, fvN, flN, zcN, plN⟩ }
  have EW : ErrTxt l.prog K CW fW "NoWorth.__init__" _ :=
    { cls := ⟨nmW, qW, NW, bsW, _, snW, subW, abW, colW, ddW, m0W, m1W, m2W, m3W, m5W, xW, by rfl⟩, sa := saW, ga := gaW, gg := ggW, noN := nnW, iC := iiW, tC := ttW, kC := kkW, exC := eeW, veC := veW, tyC := tyW, hdC := hdW, sub := mmW, sup := suW, op := op, zs := zs, htop := htop,
      fn := ⟨ocW, odW, dcW, pmW, anW, cdaW, ccW, ctW, slW, kdW, p1W, p2W, p3W, p4W, p5W, p6W, q1W, q2W, q3W, q4W, r1W, r2W, cclW, clW, cddW, cldW, vsW, ccsW, cslW, fileW, tfW, llW, ciW, dlW, fvW, flW, zcW, plW⟩ }
  have R : Errs l.prog K mg CN fN CW fW CM := ⟨EN, EW, ⟨h1N, h2N, h3N, h4N⟩, ⟨h1W, h2W, h3W, h4W⟩, PySem.W.mg_of X G aN, PySem.W.mg_of X G aW, PySem.W.mg_of X G aM, kit_self, kit_self, exm_above smN iM yM eM, exm_above smW iM yM eM⟩
  refine ⟨PySem.W.fnOf "law" "law" (defArgs s_law) (defBody s_law) (defScope s_law) .none kV14 dc14 pm14 an14 cd14 ct14, fun s v => .of_eq rfl, fun base _ _ => ?_⟩
  have T : Txt K mg := ⟨PySem.W.mg_none_of X G z_len, PySem.W.mg_none_of X G z_max, PySem.W.mg_none_of X G z_min, PySem.W.mg_none_of X G z_abs, PySem.W.mg_none_of X G z_all, PySem.W.mg_none_of X G z_range, PySem.W.mg_none_of X G z_repr, PySem.W.mg_none_of X G z_isinstance, PySem.W.mg_none_of X G z_int, PySem.W.mg_none_of X G z_bool, PySem.W.mg_none_of X G z_str, ⟨t_MOST_WORTH, PySem.W.mg_of X G i_MOST_WORTH⟩, ⟨t_MOST_FIGURES, PySem.W.mg_of X G i_MOST_FIGURES⟩, ⟨t_FIGURES, PySem.W.mg_of X G i_FIGURES⟩⟩
  have c1 := ok_cell (P := l.prog) (w := w) (base := base) T d__law_cell
  have c2 := ok_box (P := l.prog) (w := w) (base := base) T d__law_box
  have c3 := ok_take (P := l.prog) (w := w) (base := base) T d__law_take
  have c4 := ok_num c3 d__law_worth
  have c5 := ok_fig (P := l.prog) (w := w) (base := base) T d__law_figures
  have c6 := ok_whole (P := l.prog) (w := w) (base := base) T d_is_whole
  have c8 := ok_worth T c6 d_is_worth
  have c9 := ok_is_worth_text (P := l.prog) (w := w) (base := base) T d__is_worth_text
  have c10 := ok_read T R c9 d_read_worth
  have c11 := ok_text T R c8 d_worth_text
  have c12 := ok_due (P := l.prog) (w := w) (base := base) T d__law_due
  have c13 := ok_spoilt T c3 d__law_spoilt
  have c14 := ok_rr T R c12 c10 d__law_read_right
  have c15 := ok_un T R c11 d__law_unwritten
  exact ok_law T F_law c1 c2 c3 c4 c5 c11 c14 c13 c15
end Ky
open PySem PySem.W PyProof.Rows
set_option maxRecDepth 100000 in
set_option maxHeartbeats 0 in
theorem PySem.Challenge.cw_makeskept_k04_worths_written_and_read_holds : PySem.Challenge.rw_makeskept_k04_worths_written_and_read.Holds := by
  w_on; o_law; k_head; (case hw => w_witness2)
  k_fill
  refine Gd.walkG (l := PySem.Challenge.rw_makeskept_k04_worths_written_and_read) (n := 63) (k := 6) (x := "_law_script") (CX := fun _ => L2.CX0) (sp := fun w => Ky.spLaw _) rfl (by decide) rfl ⟨rfl, by decide, by decide⟩ (fun w h Y => PySem.W.kIn_of Y) ?F (fun _ _ a ns hl _ hS => ⟨a, ns, rfl, hS, hl, fun _ => rfl⟩) (fun _ _ _ _ _ h => h)
  case F =>
    intro w mg fa h KX G hmg
    refine' Ky.all_mk KX G hmg ?a0 ?l0 ?c0 ?k0 ?a1 ?l1 ?c1 ?k1 ?a2 ?l2 ?c2 ?k2 ?a3 ?l3 ?c3 ?k3 ?a4 ?l4 ?c4 ?k4 ?a5 ?l5 ?c5 ?k5 ?a6 ?l6 ?c6 ?k6 ?a7 ?l7 ?c7 ?k7 ?a8 ?l8 ?c8 ?k8 ?a9 ?l9 ?c9 ?k9 ?a10 ?l10 ?c10 ?k10 ?a11 ?l11 ?c11 ?k11 ?a12 ?l12 ?c12 ?k12 ?a13 ?l13 ?c13 ?k13 ?a14 ?l14 ?c14 ?k14 ?z_len ?z_max ?z_min ?z_abs ?z_all ?z_range ?z_repr ?z_isinstance ?z_int ?z_bool ?z_str ?i_MOST_WORTH ?i_MOST_FIGURES ?i_FIGURES ?aM ?iM ?yM ?eM ?op ?zs ?htop ?aN ?xN ?saN ?gaN ?ggN ?nnN ?iiN ?ttN ?kkN ?eeN ?veN ?tyN ?hdN ?mmN ?suN ?llN ?ciN ?dlN ?fvN ?flN ?zcN ?plN ?h1N ?h2N ?h3N ?h4N ?smN ?aW ?xW ?saW ?gaW ?ggW ?nnW ?iiW ?ttW ?kkW ?eeW ?veW ?tyW ?hdW ?mmW ?suW ?llW ?ciW ?dlW ?fvW ?flW ?zcW ?plW ?h1W ?h2W ?h3W ?h4W ?smW
    (case a0 => k_is)
    (case l0 => k_is)
    (case c0 => k_is)
    (case k0 => k_is)
    (case a1 => k_is)
    (case l1 => k_is)
    (case c1 => k_is)
    (case k1 => k_is)
    (case a2 => k_is)
    (case l2 => k_is)
    (case c2 => k_is)
    (case k2 => k_is)
    (case a3 => k_is)
    (case l3 => k_is)
    (case c3 => k_is)
    (case k3 => k_is)
    (case a4 => k_is)
    (case l4 => k_is)
    (case c4 => k_is)
    (case k4 => k_is)
    (case a5 => k_is)
    (case l5 => k_is)
    (case c5 => k_is)
    (case k5 => k_is)
    (case a6 => k_is)
    (case l6 => k_is)
    (case c6 => k_is)
    (case k6 => k_is)
    (case a7 => k_is)
    (case l7 => k_is)
    (case c7 => k_is)
    (case k7 => k_is)
    (case a8 => k_is)
    (case l8 => k_is)
    (case c8 => k_is)
    (case k8 => k_is)
    (case a9 => k_is)
    (case l9 => k_is)
    (case c9 => k_is)
    (case k9 => k_is)
    (case a10 => k_is)
    (case l10 => k_is)
    (case c10 => k_is)
    (case k10 => k_is)
    (case a11 => k_is)
    (case l11 => k_is)
    (case c11 => k_is)
    (case k11 => k_is)
    (case a12 => k_is)
    (case l12 => k_is)
    (case c12 => k_is)
    (case k12 => k_is)
    (case a13 => k_is)
    (case l13 => k_is)
    (case c13 => k_is)
    (case k13 => k_is)
    (case a14 => k_is)
    (case l14 => k_is)
    (case c14 => k_is)
    (case k14 => k_is)
    (case z_len => k_is)
    (case z_max => k_is)
    (case z_min => k_is)
    (case z_abs => k_is)
    (case z_all => k_is)
    (case z_range => k_is)
    (case z_repr => k_is)
    (case z_isinstance => k_is)
    (case z_int => k_is)
    (case z_bool => k_is)
    (case z_str => k_is)
    (case i_MOST_WORTH => k_is)
    (case i_MOST_FIGURES => k_is)
    (case i_FIGURES => k_is)
    (case aM => k_is)
    (case iM => k_is)
    (case yM => k_is)
    (case eM => k_is)
    (case op => k_is)
    (case zs => k_is)
    (case htop => first | rfl | decide +kernel)
    (case aN => k_is)
    (case xN => k_is)
    (case saN => k_is)
    (case gaN => k_is)
    (case ggN => k_is)
    (case nnN => k_is)
    (case iiN => k_is)
    (case ttN => k_is)
    (case kkN => k_is)
    (case eeN => k_is)
    (case veN => k_is)
    (case tyN => k_is)
    (case hdN => k_is)
    (case mmN => k_is)
    (case suN => ks_is)
    (case llN => k_is)
    (case ciN => k_is)
    (case dlN => k_is)
    (case fvN => rfl)
    (case flN => first | rfl | decide +kernel)
    (case zcN => k_is)
    (case plN => rfl)
    (case h1N => k_is)
    (case h2N => k_is)
    (case h3N => k_is)
    (case h4N => k_is)
    (case smN => k_is)
    (case aW => k_is)
    (case xW => k_is)
    (case saW => k_is)
    (case gaW => k_is)
    (case ggW => k_is)
    (case nnW => k_is)
    (case iiW => k_is)
    (case ttW => k_is)
    (case kkW => k_is)
    (case eeW => k_is)
    (case veW => k_is)
    (case tyW => k_is)
    (case hdW => k_is)
    (case mmW => k_is)
    (case suW => ks_is)
    (case llW => k_is)
    (case ciW => k_is)
    (case dlW => k_is)
    (case fvW => rfl)
    (case flW => first | rfl | decide +kernel)
    (case zcW => k_is)
    (case plW => rfl)
    (case h1W => k_is)
    (case h2W => k_is)
    (case h3W => k_is)
    (case h4W => k_is)
    (case smW => k_is)

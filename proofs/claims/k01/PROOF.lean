import PyProof.Rows.All
import Wide.All
import OpenK.AllK
import Wide.FinOn
import HandS.ForMost
import HandS.Codes
import HandS.IsInst
import HandS.StrMore
import HandS.DictComp
import HandS.Walk
import HandS.Style
import HandS.Conv
import PyProof.ReprRoads
import HandS.Strs
import HandS.SetFor
import HandS.ClsMeth
import HandS.Property
import HandS.AnyAll
import PyProof.Rows.SortShellAny
import KE.RegKSuper
import PyProof.DictUpdate
import HandS.SetKeys
import HandS.MakeKwOnly
import HandS.GenList
import HandS.ListItems
import HandS.GenYield
import HandS.NoneIn
import HandS.Star
import HandS.DeepEq
import PyProof.Rows.StrPins
import PyProof.Rows.StrPadWhole
import PyProof.Rows.StrPadFill
import HandS.WordsExc
import HandS.ExcOwn
import HandS.ExcIs
import HandS.ExcValue
import HandS.DictTup
import KE.SortData
import KE.KRevSl
import KE.OsRunLaw
import KE.DataMinMax
import HandS.FStr
import HandS.Text
import HandS.ExcInit
import HandS.ExcField
import HandS.ExcSuper
import KE.KExcSuper
import HandS.DeepEq
import PySem.Challenge.RW_keptroutes_k01_errors
set_option Elab.async false
set_option linter.all false
set_option maxRecDepth 100000
set_option maxHeartbeats 4000000
section
open PySem PySem.W PyProof.Rows
local macro_rules | `(tactic| k_head) => `(tactic| k_headL)
set_option maxHeartbeats 0 in
open_top Kt.head0 for PySem.Challenge.rw_keptroutes_k01_errors
end
namespace Kt
open PySem PySem.Spec PyProof.Rows L2
/-! ### defs that may call repr: no repr is under way around them -/
structure FnG (P : Program) (w : World) (K : PySem.W.Frag) (mg : Str → Option Value) (base : Heap) (k : Nat) (f : Addr) (fd : FuncData) (ps : List Str) (sp : Sp) : Prop where
  many : ∀ vs H Q E, sp vs H Q E → vs.length = ps.length
  go : ∀ (A : Around), A.guards = some [] → ∀ (outer : List Env) (s : Shared) (H : Hp) (args : Args) (us : List Value) (vs : List V) (Q : VK), Room k A → Env0 P w K mg base A outer s H →
    BindsTo s fd args (ps.zip us) → Vals vs us → sp vs H Q E0 → codeAny (model P w) A (.call (.ref f) args) (CR CX0 outer P w H s Q E0) s
theorem FnG.mono {P : Program} {w : World} {K : PySem.W.Frag} {mg : Str → Option Value} {base : Heap} {j k : Nat} {f : Addr} {fd : FuncData} {ps : List Str} {sp : Sp} (F : FnG P w K mg base j f fd ps sp) (h : j ≤ k) : FnG P w K mg base k f fd ps sp :=
  ⟨F.many, fun A g outer s H args us vs Q hr => F.go A g outer s H args us vs Q (hr.mono h)⟩
section
variable {P : Program} {w : World} {K : PySem.W.Frag} {mg : Str → Option Value} {base : Heap}
/-- a def's promise, from its body, where no repr is under way -/
theorem okG {x qual : Str} {st : Stmt} {f : Addr} {fd : FuncData} {N ps : List Str} {k : Nat} {sp : Sp} (F : Fun K x qual st f fd) (S : FnScope N ps (defScope st)) (many : ∀ vs H Q E, sp vs H Q E → vs.length = ps.length)
    (body : ∀ (cdv : Value) (A : Around) (outer : List Env) (s : Shared) (H : Hp) (vs : List V) (Q : VK), A.guards = some [] → Room k (A.deeper (envOfC qual (defScope st) s.heap.objs.size f cdv)) → sp vs H Q E0 →
      ∃ t, PSs (cxOf CX0 P w K mg base N qual (defScope st) f cdv A outer s H E0).nox (defBody st) t ∧ t { nx := fun _ H' => Q .non H', rt := Q } (start N vs) H) : FnG P w K mg base (k + 1) f fd ps sp := by
  obtain ⟨oc, od, kV, doc, pm, an, cdv, ct, osl, rfl, lk, hcd⟩ := F.ex
  refine ⟨many, fun A g outer s H args us vs Q room e0 bind rel want => ?_⟩
  have old : ∀ b o, base.get? b = some o → s.heap.get? b = some o := fun b o e => (e0.bs b o e).1
  have KX : K.In s.heap := e0.mod.kin.keeps old
  have lim : s.heap.NoLimit := e0.mod.nolimit.keeps old
  have kinds : ∀ y ∈ ps.zip us, (defScope st).names.lookup y.1 = some .local ∨ ((defScope st).names.lookup y.1 = some .cell ∧ ((cellsFrom (s.heap.objs.size + 1) (defScope st).names []).lookup y.1).isSome = true) := by
    rintro ⟨n, v⟩ hy
    rcases S.par n (List.of_mem_zip hy).1 with q | q
    · exact .inl q
    · exact .inr ⟨q, PySem.W.cellsFrom_some _ _ _ (.inl q)⟩
  refine codeAny_call_function room.depth (KX _ _ lk) rfl S.co S.gen rfl (PySem.W.codeRec_of KX hcd) (bind _ _ _ _ (wpAny_newFunctionEnv_cells S.kind kinds fun env he s1 x => ?_))
  subst he
  obtain ⟨t, ht, hq⟩ := body cdv A outer s H vs Q g (room.deeper _) want
  have I := inv_start (CX := CX0) (E := E0) S room.hd e0 (many _ _ _ _ want) rel x
  refine ⟨lim.keeps x.toInCall.keep, codeAny_func (wpAny_mono (ht.nox.run [] s1 (start N vs) H _ I hq) (fun fl s' hs => ?_) fun e s' hs => hs)⟩
  cases fl with
  | ret u =>
    obtain ⟨v, σ', H', J, rv, q⟩ := hs
    exact ⟨v, H', J.os, J.bare, J.base, J.hok, rv, q⟩
  | next =>
    obtain ⟨σ', H', J, q⟩ := hs
    exact ⟨V.non, H', J.os, J.bare, J.base, J.hok, rfl, q⟩
  | brk =>
    obtain ⟨_, _, _, q⟩ := hs
    exact q.elim
  | cont =>
    obtain ⟨_, _, _, q⟩ := hs
    exact q.elim
end
/-- f(a, ..) of such a def, within such a def -/
theorem pe_callG {X : Cx} {k : Nat} {f : Addr} {fd : FuncData} {ps : List Str} {sp : Sp} {x : Str} {p pos : Pos} {e : Expr} {es : List Expr} {t : TA} (F : FnG X.prog X.w X.K X.mg X.base k f fd ps sp) (g : X.A.guards = some []) (hr : Room k X.A) (hg : Gl X x) (hm : X.mg x = some (.ref f))
    (hk : PySem.W.keepIn X.K (.ref f) = true) (hb : Binds X.K fd ps []) (ha : PA X (e :: es) t) (hdb : (x == ("__debug__" : Str)) = false := by decide)
    (he : starEach (e :: es) X.env = (false, eval e X.env) :: starEach es X.env := by rfl) (hpl : (backTo pos (starEach es X.env)).any (·.1) = false := by rfl) : PE X (.Call (.Name x p) (e :: es) [] pos) (tCall sp [] E0 t) := by
  constructor
  intro pins s σ H Q I h
  refine wpAny_Call_Name_kw (ld_glob I hg hm (PySem.W.callWith_K (h₀ := X.base) I.ok.mod.kin hk (thn (ha.run pos pins s σ H _ I h) ?_) he hpl) hdb)
  rintro us s1 ⟨vs, H1, I1, r, q⟩
  refine ⟨I1.kIn, ?_⟩
  have r2 : Vals (vs ++ []) (us ++ []) := r.append .nil
  have hl : (us ++ []).length = ps.length := by rw [← r2.length]; exact F.many _ _ _ _ q
  refine wpAny_call (codeAny_mono (F.go X.A g X.stack s1 H1 ⟨us, []⟩ (us ++ []) (vs ++ []) Q hr I1.env0 (hb s1 us I1.kIn hl) r2 q) fun res s' hq => ?_)
  match res, hq with
  | .ok (.ret u), hq => exact I1.after hq
/-! ### the end of a law whose promise is of this kind -/
theorem law_callG {P : Program} {w : World} {K : PySem.W.Frag} {mg mb : Str → Option Value} {k : Nat} {fa a : Addr} {fd : FuncData} {x : Str} {sp : Sp} {s₁ : Shared} {vs : List Value} {ns : List Int}
    (KX : K.In s₁.heap) (hns : s₁.heap.Ns mainGlobals mg) (hb : s₁.heap.Ns builtinsNs mb) (hbb : ∀ x : Str, x ≠ "__name__" → mb x = bootBuiltins x) (hlim : s₁.heap.NoLimit) (hsys : ∃ mm, s₁.heap.Ns sysModules mm) (hg : s₁.gens = #[])
    (ha : s₁.heap.get? a = some { cls := .type "list", data := .seq vs.toArray }) (hi : IntsAre vs ns) (hl : ns.length ≤ sizeLine) (hr : Room k callerA)
    (F : ∀ base : Heap, K.In base → base.Ns mainGlobals mg → (∃ mm, base.Ns sysModules mm) → FnG P w K mg base k fa fd [x] sp) (hbind : ∀ (s : Shared) (u : Value), BindsTo s fd ⟨[u], []⟩ [(x, u)])
    (hsp : ∀ H : Hp, SqL K H a (ns.map V.int) → sp [.ref a] H (fun v _ => v = .bl true) E0) :
    codeAny (model P w) callerA (.call (.ref fa) ⟨[.ref a], []⟩) (fun r s' => r = .ok (.ret (.bool true)) ∧ OldK s₁.heap s'.heap ∧ s'.os = s₁.os ∧ AllBare s'.gens) s₁ := by
  have rv := vals_ints hi
  have lenV := hi.length
  have main : ∀ H : Hp, SqL K H a (ns.map V.int) → HOk P w H s₁.heap → (∀ b, H b ≠ none → b = a ∧ K.lookup a = none ∧ ∃ u, H b = some (.frz { cls := .type "list", data := .seq vs.toArray } u)) →
      codeAny (model P w) callerA (.call (.ref fa) ⟨[.ref a], []⟩) (fun r s' => r = .ok (.ret (.bool true)) ∧ OldK s₁.heap s'.heap ∧ s'.os = s₁.os ∧ AllBare s'.gens) s₁ := by
    intro H hS ok only
    have free : ∀ {b : Addr} {o : Obj}, s₁.heap.get? b = some o → (H b ≠ none → False) → (hidT s₁.heap H).get? b = some o := fun {b o} e n => hidT_get e (by
      cases q : H b with
      | none => rfl
      | some u => exact (n (by rw [q]; exact fun z => nomatch z)).elim)
    have dct : ∀ {b : Addr} {m : Str → Option Value}, s₁.heap.Ns b m → (hidT s₁.heap H).Ns b m := by
      rintro b m ⟨o, es, ep, e, d, r⟩
      refine ⟨o, es, ep, free e fun n => ?_, d, r⟩
      obtain ⟨rfl, _, _⟩ := only b n
      rw [ha] at e
      cases e
      cases d
    have kin : K.In (hidT s₁.heap H) := fun b o e => free (KX b o e) fun n => by
      obtain ⟨rfl, z, _⟩ := only b n
      rw [z] at e
      cases e
    have mod : Mod K mg (hidT s₁.heap H) := ⟨kin, dct hns, ⟨mb, dct hb, hbb⟩, by obtain ⟨mc, h1, h2⟩ := hlim; exact ⟨mc, dct h1, h2⟩⟩
    have sys : ∃ mm, (hidT s₁.heap H).Ns sysModules mm := by obtain ⟨mm, h⟩ := hsys; exact ⟨mm, dct h⟩
    have env : Env0 P w K mg (hidT s₁.heap H) callerA [] s₁ H := ⟨rfl, mod, fun _ _ => of_hidT, Nat.le_of_eq (hidT_size _ _), trivial, fun _ hb => absurd hb List.not_mem_nil, ok, .of_eq hg⟩
    refine codeAny_mono ((F _ kin (dct hns) sys).go callerA rfl [] s₁ H ⟨[.ref a], []⟩ [.ref a] [.ref a] _ hr env (hbind s₁ (.ref a)) (.cons rfl .nil) (hsp H hS)) fun r s' h => ?_
    match r, h with
    | .ok (.ret u), ⟨v, H', os, bare, un, ok', rel, q⟩ =>
      subst q
      cases (show u = Value.bool true from rel)
      refine ⟨rfl, OldK.of_keep fun b o e => ?_, os, bare⟩
      cases q : H b with
      | none => exact un.keep b o e q (fun z => nomatch z) fun z => nomatch z
      | some u =>
        obtain ⟨rfl, _, u', z⟩ := only b (by rw [q]; exact fun z => nomatch z)
        rw [ha] at e
        cases e
        exact (ok' b _ (un.frzs b _ _ z)).1
  cases hk : K.lookup a with
  | some o =>
    have e := KX a o hk
    rw [ha] at e
    cases e
    exact main (fun _ => none) (.inr ⟨_, vs.toArray, _, hk, rfl, rfl, rfl, by rw [List.size_toArray, lenV]; exact hl, rv⟩) (fun b u z => nomatch (show (none : Option HO) = some u from z)) fun b z => absurd rfl z
  | none =>
    refine main (fun b => if b = a then some (.frz { cls := .type "list", data := .seq vs.toArray } (.lst (ns.map V.int))) else none) (.inl (.inr ⟨_, if_pos rfl⟩)) (fun b u z => ?_) fun b z => ?_
    · by_cases q : b = a
      · dsimp only at z
        rw [if_pos q] at z
        cases z
        rw [q]
        exact ⟨ha, by rw [List.length_map]; exact hl, vs, _, rv, ha⟩
      · dsimp only at z
        rw [if_neg q] at z
        cases z
    · by_cases q : b = a
      · exact ⟨q, hk, _, if_pos q⟩
      · exact absurd (if_neg q) z
theorem walkG {l : PySem.W.OpenLaw} {n k : Nat} {q : Program} {loose : List Str} {XP : (Str → Option Value) → Heap → Prop} {YP : World → Heap → Prop} {d : DefRec} {K : Params → PySem.W.Frag} {sp : World → Sp} {x : Str} (hn : l.most = some n) (hn2 : n ≤ sizeLine) (hdf : d.params.defaults = [])
    (him : importsNone q = true) (hr : Room k callerA) (hY : ∀ (w : World) (h : Heap), YP w h → (K w.params).In h)
    (F : ∀ (w : World) (mg : Str → Option Value) (fa : Addr) (h : Heap), (K w.params).In h → h.Ns mainGlobals mg → mg d.name = some (.ref fa) →
      ∃ fd : FuncData, (∀ (s : Shared) (u : Value), BindsTo s fd ⟨[u], []⟩ [(x, u)]) ∧ ∀ base : Heap, (K w.params).In base → base.Ns mainGlobals mg → (∃ mm, base.Ns sysModules mm) → FnG l.prog w (K w.params) mg base k fa fd [x] (sp w))
    (hsp : ∀ (w : World) (H : Hp) (a : Addr) (ns : List Int), ns.length ≤ n → SqL (K w.params) H a (ns.map V.int) → sp w [.ref a] H (fun v _ => v = .bl true) E0) : PySem.W.WalkO q loose XP YP l.row.toRowW d [] (fun f vs => PySem.call f vs) :=
  Att.attach_call hn hdf fun w _ _ mg _ fa _ _ _ _ a _ ns G Y _ _ _ hmg hobj hints hlen hg => by
    have KX := hY w _ Y
    obtain ⟨fd, hb, hF⟩ := F w mg fa _ KX G.T.g hmg
    obtain ⟨mm, hm, _⟩ := (G.T.seer him).mods
    exact law_callG KX G.T.g G.T.b G.T.builtins G.T.nolimit ⟨mm, hm⟩ hg hobj hints (Nat.le_trans hlen hn2) hr hF hb fun H hS => hsp w H a ns hlen hS
/-! ### repr of data: none, bools, ints, texts, lists, tuples, dicts by ints and texts -/
def keyD : Key → PyData
  | .inl i => .int i
  | .inr x => .str x
mutual
/-- in the heap H the value is this data -/
inductive Dr (K : PySem.W.Frag) (H : Hp) (N : Addr → Prop) : V → PyData → Prop
  | non : Dr K H N .non .none
  | bl (b : Bool) : Dr K H N (.bl b) (.bool b)
  | int (i : Int) : Dr K H N (.int i) (.int i)
  | str (x : Str) : Dr K H N (.str x) (.str x)
  | lst {a : Addr} {xs : List V} {ds : List PyData} (n : N a) (h : SqL K H a xs) (all : DrAll K H N xs ds) : Dr K H N (.ref a) (.list ds)
  | tup {a : Addr} {xs : List V} {ds : List PyData} (n : N a) (h : SqT K H a xs) (all : DrAll K H N xs ds) : Dr K H N (.ref a) (.tuple ds)
  | dic {a : Addr} {kvs : List (Key × V)} {ds : List (PyData × PyData)} (n : N a) (h : Rd H a (.dK kvs)) (all : DrKv K H N kvs ds) : Dr K H N (.ref a) (.dict ds)
inductive DrAll (K : PySem.W.Frag) (H : Hp) (N : Addr → Prop) : List V → List PyData → Prop
  | nil : DrAll K H N [] []
  | cons {v : V} {vs : List V} {d : PyData} {ds : List PyData} (h : Dr K H N v d) (t : DrAll K H N vs ds) : DrAll K H N (v :: vs) (d :: ds)
inductive DrKv (K : PySem.W.Frag) (H : Hp) (N : Addr → Prop) : List (Key × V) → List (PyData × PyData) → Prop
  | nil : DrKv K H N [] []
  | cons {k : Key} {v : V} {kvs : List (Key × V)} {d : PyData} {ds : List (PyData × PyData)} (h : Dr K H N v d) (t : DrKv K H N kvs ds) : DrKv K H N ((k, v) :: kvs) ((keyD k, d) :: ds)
end
mutual
theorem Dr.move {K : PySem.W.Frag} {H H' : Hp} {N N' : Addr → Prop} (k : ∀ a o, N a → H a = some o → H' a = some o) (m : ∀ a, N a → N' a) : ∀ {v : V} {d : PyData}, Dr K H N v d → Dr K H' N' v d
  | _, _, .non => .non
  | _, _, .bl b => .bl b
  | _, _, .int i => .int i
  | _, _, .str x => .str x
  | _, _, .lst (a := a) n h all => .lst (m _ n) (by
    rcases h with (h | ⟨o, h⟩) | h
    · exact .inl (.inl (k _ _ n h))
    · exact .inl (.inr ⟨o, k _ _ n h⟩)
    · exact .inr h) (all.move k m)
  | _, _, .tup n h all => .tup (m _ n) (by
    rcases h with (h | ⟨o, h⟩) | h
    · exact .inl (.inl (k _ _ n h))
    · exact .inl (.inr ⟨o, k _ _ n h⟩)
    · exact .inr h) (all.move k m)
  | _, _, .dic n h all => .dic (m _ n) (by
    rcases h with h | ⟨o, h⟩
    · exact .inl (k _ _ n h)
    · exact .inr ⟨o, k _ _ n h⟩) (all.move k m)
theorem DrAll.move {K : PySem.W.Frag} {H H' : Hp} {N N' : Addr → Prop} (k : ∀ a o, N a → H a = some o → H' a = some o) (m : ∀ a, N a → N' a) : ∀ {vs : List V} {ds : List PyData}, DrAll K H N vs ds → DrAll K H' N' vs ds
  | _, _, .nil => .nil
  | _, _, .cons h t => .cons (h.move k m) (t.move k m)
theorem DrKv.move {K : PySem.W.Frag} {H H' : Hp} {N N' : Addr → Prop} (k : ∀ a o, N a → H a = some o → H' a = some o) (m : ∀ a, N a → N' a) : ∀ {kvs : List (Key × V)} {ds : List (PyData × PyData)}, DrKv K H N kvs ds → DrKv K H' N' kvs ds
  | _, _, .nil => .nil
  | _, _, .cons h t => .cons (h.move k m) (t.move k m)
end
theorem DrAll.len {K : PySem.W.Frag} {H : Hp} {N : Addr → Prop} : ∀ {vs : List V} {ds : List PyData}, DrAll K H N vs ds → vs.length = ds.length
  | _, _, .nil => rfl
  | _, _, .cons _ t => congrArg (· + 1) t.len
theorem DrAll.snoc {K : PySem.W.Frag} {H : Hp} {N : Addr → Prop} {v : V} {d : PyData} (h : Dr K H N v d) : ∀ {vs : List V} {ds : List PyData}, DrAll K H N vs ds → DrAll K H N (vs ++ [v]) (ds ++ [d])
  | _, _, .nil => .cons h .nil
  | _, _, .cons h1 t => .cons h1 (t.snoc h)
theorem DrAll.get {K : PySem.W.Frag} {H : Hp} {N : Addr → Prop} : ∀ {vs : List V} {ds : List PyData} {i : Nat} {v : V}, DrAll K H N vs ds → vs[i]? = some v → ∃ d, ds[i]? = some d ∧ Dr K H N v d
  | _, _, _, _, .nil, e => by simp at e
  | _, _, 0, _, .cons h _, e => ⟨_, rfl, by
    have e' := Option.some.inj e
    rw [← e']
    exact h⟩
  | _, _, i + 1, v, .cons _ t, e => t.get (i := i) (v := v) e
theorem read_key {h : Heap} {k : Key} {u : Value} (e : keyIs k u = true) : Reads h u (keyD k) [] := by
  rcases keyIs_shape e with ⟨i, t, rfl, rfl⟩ | ⟨x, t, rfl, rfl⟩
  · exact .int i t
  · exact .str x t
section
variable {X : Cx} {pins : List (Addr × Obj)} {σ : L2.St} {H : Hp} {s : Shared} {N : Addr → Prop}
theorem no_sys_list (I : Inv X pins σ H s) (sys : ∃ mm, X.base.Ns sysModules mm) {a : Addr} {o : Obj} {its : Array Value} {n : Nat} (e : s.heap.get? a = some o) (d : o.data = .seq its n) : a ≠ sysModules := by
  rintro rfl
  obtain ⟨mm, o', es, ep, e', d', _⟩ := sys
  rw [I.bk _ _ e'] at e
  cases e
  rw [d] at d'
  cases d'
mutual
theorem Dr.reads (I : Inv X pins σ H s) (sys : ∃ mm, X.base.Ns sysModules mm) : ∀ (d : PyData) (v : V) (u : Value), Dr X.K H N v d → RelV v u → ∃ as, Reads s.heap u d as ∧ sysModules ∉ as
  | .none, _, _, h, r => by
    cases h
    cases r
    exact ⟨_, Reads.none, List.not_mem_nil⟩
  | .bool b, _, _, h, r => by
    cases h
    cases r
    exact ⟨_, Reads.bool b, List.not_mem_nil⟩
  | .int i, _, _, h, r => by
    cases h
    obtain ⟨t, rfl⟩ := r
    exact ⟨_, Reads.int i t, List.not_mem_nil⟩
  | .str x, _, _, h, r => by
    cases h
    obtain ⟨t, rfl⟩ := r
    exact ⟨_, Reads.str x t, List.not_mem_nil⟩
  | .list ds, _, _, h, r => by
    cases h with
    | lst _ hs ha =>
      cases r
      obtain ⟨its, rv, ⟨o, n, ho, hc, _, hd⟩, _⟩ := I.list hs
      obtain ⟨as, hr, hn⟩ := DrAll.reads I sys ds _ its ha rv
      exact ⟨_, Reads.list ho hc hd hr, fun m => (List.mem_cons.mp m).elim (fun e => no_sys_list I sys ho hd e.symm) hn⟩
  | .tuple ds, _, _, h, r => by
    cases h with
    | tup _ hs ha =>
      cases r
      obtain ⟨its, rv, ⟨o, ho, hc, n, hd⟩, _⟩ := I.tuple hs
      obtain ⟨as, hr, hn⟩ := DrAll.reads I sys ds _ its ha rv
      exact ⟨_, Reads.tuple ho hc hd hr, hn⟩
  | .dict ds, _, _, h, r => by
    cases h with
    | dic _ hs ha =>
      cases r
      obtain ⟨_, hsys, vs, rel, o, es, ep, ho, hc, hd, _, ps, _⟩ := dk_rd I.hok hs
      obtain ⟨as, bs, h1, h2, h3, h4⟩ := DrKv.reads I sys ds _ vs es.toList ha rel ps
      refine ⟨_, Reads.dict ho hc.1 hd h1 h2, fun m => ?_⟩
      rcases List.mem_append.mp m with m | m
      · rcases List.mem_cons.mp m with e | m
        · rw [← e] at hsys
          cases hsys
        · exact h3 m
      · exact h4 m
theorem DrAll.reads (I : Inv X pins σ H s) (sys : ∃ mm, X.base.Ns sysModules mm) : ∀ (ds : List PyData) (vs : List V) (us : List Value), DrAll X.K H N vs ds → Vals vs us → ∃ as, ReadsAll s.heap us ds as ∧ sysModules ∉ as
  | [], _, _, h, r => by
    cases h
    cases r
    exact ⟨_, ReadsAll.nil, List.not_mem_nil⟩
  | d :: ds, _, _, h, r => by
    cases h with
    | cons h1 h2 =>
      cases r with
      | cons r1 r2 =>
        obtain ⟨as, q1, n1⟩ := Dr.reads I sys d _ _ h1 r1
        obtain ⟨bs, q2, n2⟩ := DrAll.reads I sys ds _ _ h2 r2
        exact ⟨_, ReadsAll.cons q1 q2, fun m => (List.mem_append.mp m).elim n1 n2⟩
theorem DrKv.reads (I : Inv X pins σ H s) (sys : ∃ mm, X.base.Ns sysModules mm) : ∀ (ds : List (PyData × PyData)) (kvs : List (Key × V)) (vs : List (Key × Value)) (es : List DictEntry), DrKv X.K H N kvs ds → KV kvs vs → Pairs (mixKind X.prog X.w) es vs →
    ∃ as bs, ReadsAll s.heap (es.map (·.key)) (ds.map (·.1)) as ∧ ReadsAll s.heap (es.map (·.val)) (ds.map (·.2)) bs ∧ sysModules ∉ as ∧ sysModules ∉ bs
  | [], _, _, _, h, r, p => by
    cases h
    cases r
    cases p
    exact ⟨_, _, ReadsAll.nil, ReadsAll.nil, List.not_mem_nil, List.not_mem_nil⟩
  | (_, d) :: ds, _, _, _, h, r, p => by
    cases h with
    | cons h1 h2 =>
      cases r with
      | cons r1 r2 =>
        cases p with
        | cons p1 p2 p3 =>
          obtain ⟨e1, e2⟩ := r1
          obtain ⟨as, q1, n1⟩ := Dr.reads I sys d _ _ h1 e2
          obtain ⟨bs, cs, q2, q3, n2, n3⟩ := DrKv.reads I sys ds _ _ _ h2 r2 p3
          have e1' : _ = _ := e1
          rw [← e1'] at p1
          refine ⟨[] ++ bs, as ++ cs, ReadsAll.cons (read_key p1) q2, ReadsAll.cons (by show Reads _ (DictEntry.val _) d as; rw [p2]; exact q1) q3, by rw [List.nil_append]; exact n2, fun m => (List.mem_append.mp m).elim n1 n3⟩
end
end
/-- repr(x) -/
def rRepr (K : PySem.W.Frag) : List V → Hp → VK → Prop := fun xs H Q => ∃ (x : V) (d : PyData) (N : Addr → Prop), xs = [x] ∧ Dr K H N x d ∧ d.showable = true ∧ d.depth ≤ 60 ∧ d.shown.length ≤ sizeLine ∧ Q (.str d.shown) H
theorem call_repr {X : Cx} (g : X.A.guards = some []) (hu : X.A.units + 64 < cLine) (sys : ∃ mm, X.base.Ns sysModules mm) : CallR X (.builtin "repr") (rRepr X.K) := by
  intro pins s σ H xs us Q I r h
  obtain ⟨x, d, N, rfl, hd, hs, hz, hl, q⟩ := h
  obtain ⟨u, rfl, r1⟩ := vals1 r
  obtain ⟨as, hr, hn⟩ := Dr.reads I sys d x u hd r1
  have fin : ∀ (u : Tok) h' tk, (∀ b o, s.heap.get? b = some o → h'.get? b = some o) → EP X pins σ Q (.str d.shown u) { s with heap := h', toks := tk } := fun u h' tk hk => ⟨.str d.shown, H, I.kept hk, ⟨u, rfl⟩, q⟩
  cases hd with
  | non =>
    cases r1
    exact PySem.P.repr_of_none (fin _ s.heap _ fun _ _ e => e)
  | bl b =>
    cases r1
    cases b <;> exact PySem.P.repr_of_bool (fin _ s.heap _ fun _ _ e => e)
  | int i =>
    obtain ⟨t, rfl⟩ := r1
    exact PySem.P.repr_of_int (of_decide_eq_true (by simpa only [PyData.showable] using hs)) (fin _ s.heap _ fun _ _ e => e)
  | str z =>
    obtain ⟨t, rfl⟩ := r1
    exact PySem.P.repr_of_str (fin _ s.heap _ fun _ _ e => e) (by simpa only [PyData.shown] using hl)
  | lst _ h1 h2 =>
    cases r1
    exact repr_of_reads' (h₀ := s.heap) hr hs (fun _ => hn) g (by omega) (fun _ _ e => e) (fun h' u tk hk => fin u h' tk hk) hl
  | tup _ h1 h2 =>
    cases r1
    exact repr_of_reads' (h₀ := s.heap) hr hs (fun _ => hn) g (by omega) (fun _ _ e => e) (fun h' u tk hk => fin u h' tk hk) hl
  | dic _ h1 h2 =>
    cases r1
    exact repr_of_reads' (h₀ := s.heap) hr hs (fun _ => hn) g (by omega) (fun _ _ e => e) (fun h' u tk hk => fin u h' tk hk) hl
/-! ### texts -/
def onlyOf (y x : Str) : Bool := x.cps.toList.all fun c => y.cps.contains c
theorem takeWhile_full {α : Type} (p : α → Bool) : ∀ l : List α, decide ((l.takeWhile p).length = l.length) = l.all p
  | [] => rfl
  | a :: r => by
    have ih := takeWhile_full p r
    rw [List.takeWhile_cons, List.all_cons]
    cases ha : p a with
    | true =>
      rw [if_pos rfl, List.length_cons, List.length_cons, ← ih]
      simp
    | false =>
      rw [if_neg Bool.false_ne_true]
      simp
theorem empty_str : ("" : Str) = ⟨#[]⟩ := by decide +kernel
theorem str_ext {x y : Str} (h : x.cps.toList = y.cps.toList) : x = y := by
  cases x
  cases y
  congr 1
  exact Array.toList_inj.mp h
theorem lstrip_empty (x y : Str) : decide (V.str (Txt.lstripChars x y) = V.str "") = onlyOf y x := by
  have e : Txt.lstripChars x y = ⟨x.cps.extract (x.cps.toList.takeWhile y.cps.contains).length x.cps.size⟩ := stripBy_eq y.cps.contains true false x
  have h := takeWhile_full (fun c => y.cps.contains c) x.cps.toList
  unfold onlyOf
  rw [← h]
  apply decide_eq_decide.mpr
  have le : (x.cps.toList.takeWhile fun c => y.cps.contains c).length ≤ x.cps.toList.length := (List.takeWhile_sublist _).length_le
  constructor
  · intro q
    have q1 : Txt.lstripChars x y = "" := V.str.inj q
    rw [e, empty_str] at q1
    have q2 : (x.cps.extract (x.cps.toList.takeWhile y.cps.contains).length x.cps.size).size = 0 := by rw [Str.mk.inj q1]; rfl
    rw [Array.size_extract] at q2
    have q3 : x.cps.toList.length = x.cps.size := Array.length_toList
    have q4 : (x.cps.toList.takeWhile y.cps.contains).length ≤ x.cps.toList.length := le
    show (x.cps.toList.takeWhile y.cps.contains).length = _
    omega
  · intro q
    have q0 : (x.cps.toList.takeWhile y.cps.contains).length = x.cps.size := by
      rw [← Array.length_toList]
      exact q
    congr 1
    rw [e, empty_str, q0]
    congr 1
    simp
/-- bits alone -/
def isBits (x : Str) : Bool := onlyOf "01" x
/-- is_prefix -/
def isPfx (v : V) (w : Int) : Bool := match v with
  | .str x => decide ((x.length : Int) ≤ w) && isBits x
  | _ => false
def isStrV : V → Bool
  | .str _ => true
  | _ => false
/-- a value whose type isinstance reads: text or not -/
def TyS (K : PySem.W.Frag) (H : Hp) (v : V) : Prop := ∃ t : String, TyX K H v (.type t) ∧ PySem.W.kitOne K (.type t) (.type "str") = some (isStrV v)
theorem kit_f {K : PySem.W.Frag} {t : String} (h : kitB t "str" = some false) : PySem.W.kitOne K (.type t) (.type "str") = some false := kit_ty h
theorem TyS.of {K : PySem.W.Frag} {H : Hp} {N : Addr → Prop} {v : V} {d : PyData} (h : Dr K H N v d) : TyS K H v := by
  cases h with
  | non => exact ⟨_, .base .non, kit_f (by decide +kernel)⟩
  | bl b => exact ⟨_, .base (.bl b), kit_f (by decide +kernel)⟩
  | int i => exact ⟨_, .base (.int i), kit_f (by decide +kernel)⟩
  | str x => exact ⟨_, .base (.str x), kit_ty (r := true) (by decide +kernel)⟩
  | lst _ h _ =>
    rcases h with (h | ⟨o, h⟩) | ⟨o, _, _, h, hc, _⟩
    · exact ⟨_, .base (.lst h), kit_f (by decide +kernel)⟩
    · exact ⟨_, .base (.frz h), kit_f (by decide +kernel)⟩
    · exact ⟨_, .kList h hc, kit_f (by decide +kernel)⟩
  | tup _ h _ =>
    rcases h with (h | ⟨o, h⟩) | ⟨o, _, _, h, hc, _⟩
    · exact ⟨_, .base (.tup h), kit_f (by decide +kernel)⟩
    · exact ⟨_, .fTuple h, kit_f (by decide +kernel)⟩
    · exact ⟨_, .kTuple h hc, kit_f (by decide +kernel)⟩
  | dic _ h _ =>
    rcases h with h | ⟨o, h⟩
    · exact ⟨_, .base (.dK h), kit_f (by decide +kernel)⟩
    · exact ⟨_, .fDict h, kit_f (by decide +kernel)⟩
/-! ### the pen -/
/-- a pen stands at p: its numbers at c, its place i, its stock s, what was appended -/
def penL (c : Addr) (i s : Int) (m : List V) : HO := .lst (.ref c :: .int i :: .int s :: m)
structure PenAt (H : Hp) (p : Addr) (n : Nat) (m : List V) (c : Addr) (ns : List Int) (i s : Int) : Prop where
  at_ : H p = some (penL c i s m)
  cells : H c = some (.lst (ns.map V.int))
  len : ns.length ≤ 60
  i0 : 0 ≤ i
  i1 : i ≤ n
  s0 : 0 ≤ s
theorem PenAt.ne {H : Hp} {p c : Addr} {n : Nat} {m : List V} {ns : List Int} {i s : Int} (h : PenAt H p n m c ns i s) : c ≠ p := fun e => by
  have h1 := h.cells
  rw [e, h.at_] at h1
  have h2 := HO.lst.inj (Option.some.inj h1)
  cases ns with
  | nil => cases h2
  | cons x r => cases (List.cons.inj h2).1
theorem PenAt.mono {H : Hp} {p c : Addr} {n k : Nat} {m : List V} {ns : List Int} {i s : Int} (h : PenAt H p n m c ns i s) (hk : n ≤ k) : PenAt H p k m c ns i s :=
  ⟨h.at_, h.cells, h.len, h.i0, by have := h.i1; omega, h.s0⟩
/-- the pen behind a draw -/
theorem PenAt.next {H : Hp} {p c : Addr} {n k : Nat} {m : List V} {ns : List Int} {i s i' s' : Int} (h : PenAt H p n m c ns i s) (h0 : 0 ≤ i') (h1 : i' ≤ k) (h2 : 0 ≤ s') : PenAt (upd H p (penL c i' s' m)) p k m c ns i' s' :=
  ⟨upd_same, by rw [upd_ne h.ne]; exact h.cells, h.len, h0, h1, h2⟩
theorem PenAt.keep {H H' : Hp} {p c : Addr} {n : Nat} {m : List V} {ns : List Int} {i s : Int} (h : PenAt H p n m c ns i s) (k : Same H H') : PenAt H' p n m c ns i s :=
  ⟨k _ _ h.at_, k _ _ h.cells, h.len, h.i0, h.i1, h.s0⟩
/-- a pen at p, its numbers at c, whatever it holds -/
def Pen (H : Hp) (p c : Addr) (n : Nat) (m : List V) : Prop := ∃ ns i s, PenAt H p n m c ns i s
theorem Pen.keep {H H' : Hp} {p c : Addr} {n : Nat} {m : List V} (h : Pen H p c n m) (k : Same H H') : Pen H' p c n m := by
  obtain ⟨ns, i, s, h⟩ := h
  exact ⟨ns, i, s, h.keep k⟩
theorem Pen.mono {H : Hp} {p c : Addr} {n k : Nat} {m : List V} (h : Pen H p c n m) (hk : n ≤ k) : Pen H p c k m := by
  obtain ⟨ns, i, s, h⟩ := h
  exact ⟨ns, i, s, h.mono hk⟩
theorem Pen.ne_p {H : Hp} {p c : Addr} {n : Nat} {m : List V} (h : Pen H p c n m) {a : Addr} (e : H a = none) : a ≠ p := by
  obtain ⟨ns, i, s, h⟩ := h
  rintro rfl
  rw [h.at_] at e
  cases e
theorem Pen.ne_c {H : Hp} {p c : Addr} {n : Nat} {m : List V} (h : Pen H p c n m) {a : Addr} (e : H a = none) : a ≠ c := by
  obtain ⟨ns, i, s, h⟩ := h
  rintro rfl
  rw [h.cells] at e
  cases e
/-- a store elsewhere -/
theorem Pen.off {H : Hp} {p c : Addr} {n : Nat} {m : List V} (h : Pen H p c n m) {a : Addr} {o : HO} (h1 : a ≠ p) (h2 : a ≠ c) : Pen (upd H a o) p c n m := by
  obtain ⟨ns, i, s, h⟩ := h
  exact ⟨ns, i, s, by rw [upd_ne h1.symm]; exact h.at_, by rw [upd_ne h2.symm]; exact h.cells, h.len, h.i0, h.i1, h.s0⟩
/-- all but p is as it was -/
def But (p : Addr) (H H' : Hp) : Prop := ∀ b o, b ≠ p → H b = some o → H' b = some o
theorem But.refl (p : Addr) (H : Hp) : But p H H := fun _ _ _ e => e
theorem But.trans {p : Addr} {H H1 H2 : Hp} (a : But p H H1) (b : But p H1 H2) : But p H H2 := fun c o n e => b c o n (a c o n e)
theorem But.of_same {p : Addr} {H H' : Hp} (h : Same H H') : But p H H' := fun b o _ e => h b o e
theorem But.upd {p : Addr} {H : Hp} {o : HO} : But p H (upd H p o) := fun b x n e => by rw [upd_ne n]; exact e
/-- what is free behind was free ahead -/
theorem But.free {p : Addr} {H H' : Hp} (e : But p H H') {a : Addr} (n : a ≠ p) (h : H' a = none) : H a = none := by
  cases q : H a with
  | none => rfl
  | some o =>
    rw [e a o n q] at h
    cases h
theorem But.seq {K : PySem.W.Frag} {p : Addr} {H H' : Hp} {a : Addr} {xs : List V} (e : But p H H') (hn : a ≠ p) (h : SqL K H a xs) : SqL K H' a xs := by
  rcases h with (h | ⟨o, h⟩) | h
  · exact .inl (.inl (e _ _ hn h))
  · exact .inl (.inr ⟨o, e _ _ hn h⟩)
  · exact .inr h
theorem PenAt.but {H H' : Hp} {p c : Addr} {n k : Nat} {m : List V} {ns : List Int} {i s i' s' : Int} (h : PenAt H p n m c ns i s) (hb : But p H H') (e : H' p = some (penL c i' s' m)) (h0 : 0 ≤ i') (h1 : i' ≤ k) (h2 : 0 ≤ s') : PenAt H' p k m c ns i' s' :=
  ⟨e, hb _ _ h.ne h.cells, h.len, h0, h1, h2⟩
/-- no call makes more turns of the pen -/
abbrev PB : Nat := 1000000000000
def spPen (K : PySem.W.Frag) : Sp := fun vs H Q _ => ∃ (a : Addr) (ns : List Int), vs = [.ref a] ∧ SqL K H a (ns.map V.int) ∧ ns.length ≤ 63 ∧ ∀ H' p c, Same H H' → H p = none → H c = none → Pen H' p c 0 [] → Q (.ref p) H'
def spNext : Sp := fun vs H Q _ => ∃ (p : Addr) (n : Nat) (m : List V) (c : Addr) (ns : List Int) (i s : Int), vs = [.ref p] ∧ PenAt H p n m c ns i s ∧ n ≤ PB ∧
  ∀ (x : Int) (H' : Hp), 0 ≤ x → But p H H' → PenAt H' p (n + 1) m c ns (i + 1) s → Q (.int x) H'
def spDraw : Sp := fun vs H Q _ => ∃ (p c : Addr) (n : Nat) (m : List V) (below : Int), vs = [.ref p, .int below] ∧ Pen H p c n m ∧ n ≤ PB ∧ 0 < below ∧ below < 1073741824 ∧
  ∀ (d : Int) (H' : Hp), 0 ≤ d → d < below → But p H H' → Pen H' p c (n + 1) m → Q (.int d) H'
theorem sixty {ns : List Int} : HT.sIx ns.length 0 none = 0 ∧ HT.sIx ns.length ns.length (some 60) ≤ 60 := by
  refine ⟨HT.sIx_none _ _, ?_⟩
  rw [show HT.sIx ns.length ns.length (some 60) = min 60 ns.length from HT.sIx_nat ns.length ns.length 60]
  omega
theorem cut60 (ns : List Int) : ∃ ms : List Int, cutV (ns.map V.int) none (some 60) = ms.map V.int ∧ ms.length ≤ 60 := by
  unfold cutV
  refine ⟨(ns.drop (HT.sIx (ns.map V.int).length 0 none)).take (HT.sIx (ns.map V.int).length (ns.map V.int).length (some 60) - HT.sIx (ns.map V.int).length 0 none), ?_, ?_⟩
  · rw [List.map_take, List.map_drop]
  · rw [List.length_take, List.length_map]
    have h := (sixty (ns := ns)).2
    omega
theorem same_upd {H : Hp} {p : Addr} {o : HO} (h : H p = none) : Same H (upd H p o) := fun b x e => by
  rw [upd_ne (ne_of_none e h)]
  exact e
theorem ix1 {a b c : V} {m : List V} : ixN (a :: b :: c :: m).length 1 = some 1 := by
  unfold ixN
  rw [if_pos (by decide), if_pos (by rw [List.length_cons, List.length_cons]; omega)]
  rfl
theorem ix2 {a b c : V} {m : List V} : ixN (a :: b :: c :: m).length 2 = some 2 := by
  unfold ixN
  rw [if_pos (by decide), if_pos (by rw [List.length_cons, List.length_cons, List.length_cons]; omega)]
  rfl
theorem dpAll_ints {K : PySem.W.Frag} {H : Hp} : ∀ ns : List Int, DpAll K H (ns.map V.int) (ns.map PyData.int)
  | [] => .nil
  | n :: r => .cons (.int n) (dpAll_ints r)
theorem eqv_nil (ns : List Int) : PyData.eqv (.list (ns.map PyData.int)) (.list []) = decide (ns = []) := by
  cases ns with
  | nil => rfl
  | cons x r => rfl
/-! ### what the reprs of small data come to -/
structure OkD (L B : Nat) (d : PyData) : Prop where
  sh : d.showable = true
  dp : d.depth ≤ L
  ln : d.shown.length ≤ B
theorem OkD.mono {L B L' B' : Nat} {d : PyData} (h : OkD L B d) (h1 : L ≤ L') (h2 : B ≤ B') : OkD L' B' d := ⟨h.sh, Nat.le_trans h.dp h1, Nat.le_trans h.ln h2⟩
theorem comma_len : ((", " : String) : Str).length = 2 := by decide +kernel
theorem join_le : ∀ ts : List Str, (Str.join ", " ts).length ≤ (ts.map fun t => t.length + 2).sum
  | [] => Nat.zero_le _
  | [x] => by
    show x.length ≤ _
    rw [List.map_cons, List.sum_cons]
    omega
  | x :: y :: r => by
    have ih := join_le (y :: r)
    show (x ++ ((", " : String) : Str) ++ Str.join ", " (y :: r)).length ≤ _
    rw [strLen_append, strLen_append, comma_len, List.map_cons, List.sum_cons]
    omega
theorem sum_le_of {l : List Str} {B : Nat} (h : ∀ t ∈ l, t.length ≤ B) : (l.map fun t => t.length + 2).sum ≤ l.length * (B + 2) := by
  induction l with
  | nil => exact Nat.zero_le _
  | cons x r ih =>
    have h1 := h x List.mem_cons_self
    have h2 := ih fun t ht => h t (List.mem_cons_of_mem _ ht)
    rw [List.map_cons, List.sum_cons, List.length_cons, Nat.succ_mul]
    omega
theorem shownAll_map : ∀ ds : List PyData, PyData.shownAll ds = ds.map PyData.shown
  | [] => PyData.shownAll_nil
  | d :: ds => by rw [PyData.shownAll_cons, shownAll_map ds, List.map_cons]
theorem showableAll_all : ∀ {ds : List PyData}, (∀ d ∈ ds, d.showable = true) → PyData.showableAll ds = true := PySem.Spec.showableAll_of
theorem depthAll_le {L : Nat} : ∀ {ds : List PyData}, (∀ d ∈ ds, d.depth ≤ L) → PyData.depthAll ds ≤ L
  | [], _ => by simp only [PyData.depthAll]; exact Nat.zero_le _
  | d :: ds, h => by
    have h1 := h d List.mem_cons_self
    have h2 := depthAll_le fun x hx => h x (List.mem_cons_of_mem _ hx)
    simp only [PyData.depthAll]
    omega
theorem OkD.list {L B n : Nat} {ds : List PyData} (hn : ds.length ≤ n) (h : ∀ d ∈ ds, OkD L B d) : OkD (L + 1) (n * (B + 2) + 2) (.list ds) := by
  refine ⟨by simp only [PyData.showable]; exact showableAll_all fun d hd => (h d hd).sh, ?_, ?_⟩
  · have := depthAll_le fun d hd => (h d hd).dp
    simp only [PyData.depth]
    omega
  · rw [PyData.shown_list, shownAll_map, strLen_append, strLen_append]
    have h1 := join_le (ds.map PyData.shown)
    have h2 := sum_le_of (l := ds.map PyData.shown) (B := B) fun t ht => by
      obtain ⟨d, hd, rfl⟩ := List.mem_map.mp ht
      exact (h d hd).ln
    rw [List.length_map] at h2
    have h3 := Nat.mul_le_mul_right (B + 2) hn
    have e1 : ((("[" : String) : Str)).length = 1 := by decide +kernel
    have e2 : ((("]" : String) : Str)).length = 1 := by decide +kernel
    omega
theorem OkD.tuple {L B n : Nat} {ds : List PyData} (hn : ds.length ≤ n) (h : ∀ d ∈ ds, OkD L B d) : OkD (L + 1) (n * (B + 2) + 3) (.tuple ds) := by
  refine ⟨by simp only [PyData.showable]; exact showableAll_all fun d hd => (h d hd).sh, ?_, ?_⟩
  · have := depthAll_le fun d hd => (h d hd).dp
    simp only [PyData.depth]
    omega
  · rw [PyData.shown_tuple, shownAll_map, strLen_append, strLen_append]
    have h1 := join_le (ds.map PyData.shown)
    have h2 := sum_le_of (l := ds.map PyData.shown) (B := B) fun t ht => by
      obtain ⟨d, hd, rfl⟩ := List.mem_map.mp ht
      exact (h d hd).ln
    rw [List.length_map] at h2
    have h3 := Nat.mul_le_mul_right (B + 2) hn
    have e1 : ((("(" : String) : Str)).length = 1 := by decide +kernel
    have e2 : (((if (ds.length == 1) = true then ",)" else ")" : String) : Str)).length ≤ 2 := by split <;> decide +kernel
    omega
theorem depthKv_le {L : Nat} : ∀ {ds : List (PyData × PyData)}, (∀ d ∈ ds, d.1.depth ≤ L ∧ d.2.depth ≤ L) → PyData.depthKv ds ≤ L
  | [], _ => by simp only [PyData.depthKv]; exact Nat.zero_le _
  | (a, b) :: ds, h => by
    have h1 : a.depth ≤ L ∧ b.depth ≤ L := h (a, b) List.mem_cons_self
    have h2 := depthKv_le fun x hx => h x (List.mem_cons_of_mem _ hx)
    simp only [PyData.depthKv]
    omega
theorem shownKv_map : ∀ ds : List (PyData × PyData), PyData.shownKv ds = ds.map fun p => p.1.shown ++ ((": " : String) : Str) ++ p.2.shown
  | [] => PyData.shownKv_nil
  | (a, b) :: ds => by rw [PyData.shownKv_cons, shownKv_map ds, List.map_cons]
theorem OkD.dict {L B C n : Nat} {ds : List (PyData × PyData)} (hn : ds.length ≤ n) (h : ∀ d ∈ ds, OkD L C d.1 ∧ OkD L B d.2) : OkD (L + 1) (n * (C + B + 4) + 2) (.dict ds) := by
  refine ⟨by simp only [PyData.showable]; exact PySem.Spec.showableKv_of fun d hd => ⟨(h d hd).1.sh, (h d hd).2.sh⟩, ?_, ?_⟩
  · have := depthKv_le fun d hd => ⟨(h d hd).1.dp, (h d hd).2.dp⟩
    simp only [PyData.depth]
    omega
  · rw [PyData.shown_dict, shownKv_map, strLen_append, strLen_append]
    have h1 := join_le (ds.map fun p => p.1.shown ++ ((": " : String) : Str) ++ p.2.shown)
    have e0 : (((": " : String) : Str)).length = 2 := by decide +kernel
    have h2 := sum_le_of (l := ds.map fun p => p.1.shown ++ ((": " : String) : Str) ++ p.2.shown) (B := C + B + 2) fun t ht => by
      obtain ⟨d, hd, rfl⟩ := List.mem_map.mp ht
      have z1 := (h d hd).1.ln
      have z2 := (h d hd).2.ln
      rw [strLen_append, strLen_append, e0]
      omega
    rw [List.length_map] at h2
    have h3 := Nat.mul_le_mul_right (C + B + 2 + 2) hn
    have e1 : ((("{" : String) : Str)).length = 1 := by decide +kernel
    have e2 : ((("}" : String) : Str)).length = 1 := by decide +kernel
    have e3 : C + B + 2 + 2 = C + B + 4 := by omega
    rw [e3] at h2 h3
    omega
/-! ### dicts made of pairs -/
theorem putK_end {kvs : List (Key × V)} {k : Key} {v : V} (h : k ∉ kvs.map (·.1)) : putK kvs k v = kvs ++ [(k, v)] := by
  unfold putK
  rw [if_neg]
  intro q
  obtain ⟨p, hp, e⟩ := List.any_eq_true.mp q
  exact h (List.mem_map.mpr ⟨p, hp, of_decide_eq_true e⟩)
theorem mergeK_nd : ∀ (more kvs : List (Key × V)), ((kvs ++ more).map (·.1)).Nodup → mergeK kvs more = kvs ++ more
  | [], kvs, _ => (List.append_nil _).symm
  | (k, v) :: r, kvs, h => by
    have e : kvs ++ (k, v) :: r = (kvs ++ [(k, v)]) ++ r := by rw [List.append_assoc]; rfl
    have hk : k ∉ kvs.map (·.1) := fun m => by
      rw [List.map_append, List.nodup_append] at h
      exact h.2.2 k m k (by rw [List.map_cons]; exact List.mem_cons_self) rfl
    show mergeK (putK kvs k v) r = _
    rw [putK_end hk, e]
    rw [e] at h
    exact mergeK_nd r _ h
theorem DrKv.zip {K : PySem.W.Frag} {H : Hp} {N : Addr → Prop} : ∀ (ks : List Key) {vs : List V} {ds : List PyData}, DrAll K H N vs ds → DrKv K H N (ks.zip vs) ((ks.map keyD).zip ds)
  | [], _, _, _ => .nil
  | _ :: _, _, _, .nil => .nil
  | k :: ks, _, _, .cons h t => .cons h (DrKv.zip ks t)
theorem nodup_zip {α β : Type} {ks : List α} (h : ks.Nodup) : ∀ vs : List β, ((ks.zip vs).map (·.1)).Nodup := fun vs => by
  have e : (ks.zip vs).map (·.1) = ks.take vs.length := by
    induction ks generalizing vs with
    | nil => cases vs <;> rfl
    | cons k ks ih =>
      cases vs with
      | nil => rfl
      | cons v vs =>
        show k :: (ks.zip vs).map (·.1) = _
        rw [ih (List.nodup_cons.mp h).2]
        rfl
  rw [e]
  exact h.sublist (List.take_sublist _ _)
/-- a comprehension without tests: the item is kept -/
theorem yes_if {σ : L2.St} {H : Hp} {A B : Hp → Prop} (h : A H) : tYes σ H fun b H3 => if b = true then A H3 else B H3 := by
  unfold tYes
  dsimp only
  rw [if_pos rfl]
  exact h
/-! ### texts made of texts -/
/-- the signs of a text -/
abbrev sg (x : Str) : List Nat := x.cps.toList
theorem sg_len (x : Str) : (sg x).length = x.length := Array.length_toList
theorem sg_app (x y : Str) : sg (x ++ y) = sg x ++ sg y := by
  show ((x.cps ++ y.cps).toList : List Nat) = _
  rw [Array.toList_append]
theorem sg_empty : sg "" = [] := by rw [show ("" : Str) = ⟨#[]⟩ from empty_str]
theorem app_empty (x : Str) : x ++ ((("" : String) : Str)) = x := str_ext (by
  show sg (x ++ _) = sg x
  rw [sg_app, sg_empty, List.append_nil])
theorem sg_join : ∀ ys : List Str, sg (Txt.join "" ys) = (ys.map sg).flatten := by
  intro ys
  show sg (Builtin.Str.glued "" ys) = _
  rw [StrLaws.glued_eq_join]
  induction ys with
  | nil => rfl
  | cons y r ih =>
    cases r with
    | nil =>
      show sg y = _
      rw [List.map_cons, List.map_nil, List.flatten_cons, List.flatten_nil, List.append_nil]
    | cons z t =>
      show sg (y ++ ((("" : String) : Str)) ++ Str.join "" (z :: t)) = _
      rw [app_empty, sg_app, ih, List.map_cons (a := y), List.flatten_cons]
/-- a text that is not long, of signs that repr writes short -/
structure Sm (n : Nat) (x : Str) : Prop where
  ln : x.length ≤ n
  ch : ∀ c ∈ sg x, c < 128
theorem Sm.mono {n m : Nat} {x : Str} (h : Sm n x) (hm : n ≤ m) : Sm m x := ⟨Nat.le_trans h.ln hm, h.ch⟩
theorem Sm.app {n m : Nat} {x y : Str} (h : Sm n x) (h' : Sm m y) : Sm (n + m) (x ++ y) := ⟨by
  rw [strLen_append]
  exact Nat.add_le_add h.ln h'.ln, fun c hc => by
  rw [sg_app] at hc
  exact (List.mem_append.mp hc).elim (h.ch c) (h'.ch c)⟩
theorem Sm.cut {n : Nat} {x : Str} (h : Sm n x) (lo hi : Option Int) : Sm n (cutS x lo hi) := ⟨Nat.le_trans (cutS_length x lo hi) h.ln, fun c hc => by
  have e : sg (cutS x lo hi) = ((sg x).drop (HT.sIx x.length 0 lo)).take (HT.sIx x.length x.length hi - HT.sIx x.length 0 lo) := rfl
  rw [e] at hc
  exact h.ch c (List.mem_of_mem_drop (List.mem_of_mem_take hc))⟩
theorem Sm.one {c : Nat} (h : c < 128) : Sm 1 ⟨#[c]⟩ := ⟨Nat.le_refl _, fun d hd => by
  have hd' : d ∈ [c] := hd
  rw [List.mem_singleton.mp hd']
  exact h⟩
theorem Sm.join {ys : List Str} (h : ∀ y ∈ ys, Sm 1 y) : Sm ys.length (Txt.join "" ys) := by
  constructor
  · rw [← sg_len, sg_join]
    induction ys with
    | nil => exact Nat.le_refl _
    | cons y r ih =>
      have h1 := (h y List.mem_cons_self).ln
      have h2 := ih fun z hz => h z (List.mem_cons_of_mem _ hz)
      rw [List.map_cons, List.flatten_cons, List.length_append, List.length_cons, sg_len]
      omega
  · intro c hc
    rw [sg_join] at hc
    obtain ⟨l, hl, hc⟩ := List.mem_flatten.mp hc
    obtain ⟨y, hy, rfl⟩ := List.mem_map.mp hl
    exact (h y hy).ch c hc
theorem Sm.ok {n B : Nat} {x : Str} (h : Sm n x) (hb : 10 * n + 2 ≤ B) : OkD 0 B (.str x) := by
  refine ⟨by simp only [PyData.showable], by simp only [PyData.depth]; exact Nat.le_refl _, ?_⟩
  rw [PyData.shown_str]
  have h1 := StrLaws.reprText_len x fun c hc => Nat.lt_of_lt_of_le (h.ch c hc) (by decide)
  have h2 := h.ln
  omega
theorem sum_ones {ys : List Str} (h : ∀ y ∈ ys, Sm 1 y) : (ys.map (·.length)).sum ≤ ys.length := by
  induction ys with
  | nil => exact Nat.le_refl _
  | cons y r ih =>
    have h1 := (h y List.mem_cons_self).ln
    have h2 := ih fun z hz => h z (List.mem_cons_of_mem _ hz)
    rw [List.map_cons, List.sum_cons, List.length_cons]
    omega
/-- text * number -/
def rMulS : R2 := fun x y H Q => ∃ z n, x = .str z ∧ y = .int n ∧ MulOk z n ∧ Q (.str (Txt.mul z n)) H
theorem op_mulS {X : Cx} : OpR X (binaryOp .Mult) rMulS := by
  intro pins s σ H x y v u Q I rx ry h
  obtain ⟨z, n, rfl, rfl, ok, q⟩ := h
  obtain ⟨t, rfl⟩ := rx
  obtain ⟨t', rfl⟩ := ry
  exact SB.mul ok fun t k => ⟨.str _, H, I.tok _, ⟨_, rfl⟩, q⟩
theorem foldl_app (l : List (Array Nat)) : ∀ a : Array Nat, (l.foldl (· ++ ·) a).toList = a.toList ++ (l.map Array.toList).flatten := by
  induction l with
  | nil => intro a; simp
  | cons x r ih =>
    intro a
    rw [List.foldl_cons, ih, Array.toList_append, List.map_cons, List.flatten_cons, List.append_assoc]
theorem mul_sm {x : Str} {n : Nat} (h : Sm 1 x) (h1 : 2 ≤ n) (hx : (x.length == 0) = false) : Sm n (Txt.mul x (n : Int)) := by
  have e : Txt.mul x (n : Int) = ⟨(List.replicate n x.cps).foldl (· ++ ·) #[]⟩ := by
    unfold Txt.mul
    rw [if_neg (by omega), hx, show ((n : Int) == 1) = false from beq_eq_false_iff_ne.mpr (by omega)]
    rfl
  have e2 : sg (Txt.mul x (n : Int)) = (List.replicate n (sg x)).flatten := by
    rw [e]
    show ((List.replicate n x.cps).foldl (· ++ ·) #[]).toList = _
    rw [foldl_app, List.map_replicate]
    rfl
  constructor
  · rw [← sg_len, e2, List.length_flatten, List.map_replicate, List.sum_replicate_nat, sg_len]
    have := h.ln
    exact Nat.le_trans (Nat.mul_le_mul_left n this) (by omega)
  · intro c hc
    rw [e2] at hc
    obtain ⟨l, hl, hc⟩ := List.mem_flatten.mp hc
    rw [(List.mem_replicate.mp hl).2] at hc
    exact h.ch c hc
/-- bit in ['0', '1'] -/
theorem bit_in (c : Nat) : inV (.str ⟨#[c]⟩) [.str "0", .str "1"] = (("01" : Str)).cps.contains c := by
  have e0 : ("0" : Str) = ⟨#[48]⟩ := by decide +kernel
  have e1 : ("1" : Str) = ⟨#[49]⟩ := by decide +kernel
  have e2 : (("01" : Str)).cps = #[48, 49] := by decide +kernel
  have eq1 : ∀ d : Nat, eqV (.str ⟨#[d]⟩) (.str ⟨#[c]⟩) = (c == d) := fun d => by
    show ((⟨#[d]⟩ : Str) == ⟨#[c]⟩) = (c == d)
    rw [Bool.eq_iff_iff, beq_iff_eq, beq_iff_eq]
    constructor
    · intro h
      have h2 : ([d] : List Nat) = [c] := congrArg Array.toList (Str.mk.inj h)
      exact (List.cons.inj h2).1.symm
    · rintro rfl
      rfl
  rw [e0, e1, e2]
  show (eqV (.str ⟨#[48]⟩) (.str ⟨#[c]⟩) || (eqV (.str ⟨#[49]⟩) (.str ⟨#[c]⟩) || false)) = _
  rw [eq1, eq1, Bool.eq_iff_iff]
  simp
/-! ### rows -/
theorem bits_sm {x : Str} (h : isBits x = true) : ∀ c ∈ sg x, c < 128 := fun c hc => by
  have h1 := List.all_eq_true.mp h c hc
  have e2 : (("01" : Str)).cps = #[48, 49] := by decide +kernel
  rw [e2] at h1
  simp at h1
  omega
theorem bits_iff {x : Str} : isBits x = true ↔ ∀ c ∈ sg x, c = 48 ∨ c = 49 := by
  have e2 : (("01" : Str)).cps = #[48, 49] := by decide +kernel
  unfold isBits onlyOf
  rw [e2, List.all_eq_true]
  constructor
  · intro h c hc
    have := h c hc
    simp at this
    omega
  · intro h c hc
    have := h c hc
    simp
    omega
theorem bits_app {x y : Str} (h : isBits x = true) (h' : isBits y = true) : isBits (x ++ y) = true := bits_iff.mpr fun c hc => by
  rw [sg_app] at hc
  exact (List.mem_append.mp hc).elim (bits_iff.mp h c) (bits_iff.mp h' c)
theorem bits_sub {x y : Str} (h : isBits x = true) (k : ∀ c ∈ sg y, c ∈ sg x) : isBits y = true := bits_iff.mpr fun c hc => bits_iff.mp h c (k c hc)
theorem sg_cut (x : Str) (lo hi : Option Int) : sg (cutS x lo hi) = ((sg x).drop (HT.sIx x.length 0 lo)).take (HT.sIx x.length x.length hi - HT.sIx x.length 0 lo) := rfl
theorem bits_cut {x : Str} (h : isBits x = true) (lo hi : Option Int) : isBits (cutS x lo hi) = true := bits_sub h fun c hc => by
  rw [sg_cut] at hc
  exact List.mem_of_mem_drop (List.mem_of_mem_take hc)
/-- x[:k] -/
theorem sg_take (x : Str) (k : Nat) : sg (cutS x none (some (k : Int))) = (sg x).take k := by
  rw [sg_cut, HT.sIx_none, HT.sIx_nat, List.drop_zero, Nat.sub_zero, ← sg_len]
  rcases Nat.le_total k (sg x).length with h | h
  · rw [Nat.min_eq_left h]
  · rw [Nat.min_eq_right h, List.take_length, List.take_of_length_le h]
theorem take_len (x : Str) (k : Nat) : (cutS x none (some (k : Int))).length ≤ k := by
  rw [← sg_len, sg_take, List.length_take]
  omega
theorem bits_empty : isBits "" = true := by decide +kernel
theorem flat_str (xs : List Str) : (xs.map V.str).all flatV = true := by
  induction xs with
  | nil => rfl
  | cons x r ih => exact ih
theorem inV_str (x : Str) (xs : List Str) : inV (.str x) (xs.map V.str) = decide (x ∈ xs) := by
  induction xs with
  | nil => rfl
  | cons y r ih =>
    have e : inV (.str x) ((y :: r).map V.str) = ((y == x) || inV (.str x) (r.map V.str)) := rfl
    rw [e, ih, Bool.eq_iff_iff, Bool.or_eq_true, beq_iff_eq, decide_eq_true_iff, decide_eq_true_iff, List.mem_cons]
    exact ⟨fun h => h.imp Eq.symm id, fun h => h.imp Eq.symm id⟩
theorem dpAll_strs {K : PySem.W.Frag} {H : Hp} : ∀ xs : List Str, DpAll K H (xs.map V.str) (xs.map PyData.str)
  | [] => .nil
  | x :: r => .cons (.str x) (dpAll_strs r)
theorem shaped_strs {xs : List Str} (h : ∀ x ∈ xs, isBits x = true) : SeqAt.shaped (.list (xs.map PyData.str)) = true := by
  have h1 : PyData.canLayAll0 (xs.map PyData.str) = true := by
    induction xs with
    | nil => simp only [List.map_nil, PyData.canLayAll0]
    | cons x r ih =>
      rw [List.map_cons]
      simp only [PyData.canLayAll0, PyData.canLay0]
      rw [ih fun y hy => h y (List.mem_cons_of_mem _ hy), Bool.and_true]
      unfold PyData.strOk
      have hx := bits_sm (h x List.mem_cons_self)
      rw [Array.all_eq_true']
      intro c hc
      have := hx c (Array.mem_toList_iff.mpr hc)
      exact decide_eq_true (by omega)
  have h2 : PyData.depthAll (xs.map PyData.str) ≤ 0 := depthAll_le fun d hd => by
    obtain ⟨x, _, rfl⟩ := List.mem_map.mp hd
    simp only [PyData.depth]
    exact Nat.le_refl _
  unfold SeqAt.shaped
  rw [Bool.and_eq_true]
  refine ⟨by simp only [PyData.canLay0]; exact h1, decide_eq_true ?_⟩
  simp only [PyData.depth]
  omega
theorem eqv_nilS (xs : List Str) : PyData.eqv (.list (xs.map PyData.str)) (.list []) = decide (xs = []) := by
  cases xs with
  | nil => rfl
  | cons x r => rfl
/-- the prefixes of a map of this width, each once -/
structure PfxL (w : Nat) (xs : List Str) : Prop where
  nd : xs.Nodup
  bits : ∀ x ∈ xs, isBits x = true
  len : ∀ x ∈ xs, x.length ≤ w
/-- rows: prefixes of this width with values of this kind -/
structure RowsOk (w : Nat) (vok : V → Prop) (xs : List Str) (kvs : List (Key × V)) : Prop where
  keys : kvs.map (·.1) = xs.map Sum.inr
  pfx : PfxL w xs
  val : ∀ kv ∈ kvs, vok kv.2
def isIntV : V → Prop
  | .int _ => True
  | _ => False
def spBits : Sp := fun vs H Q _ => ∃ (p c : Addr) (n z : Nat) (m : List V), vs = [.ref p, .int z] ∧ Pen H p c n m ∧ n + 100 ≤ PB ∧ z ≤ 40 ∧
  ∀ (x : Str) (H' : Hp), But p H H' → Pen H' p c (n + 1 + z) m → isBits x = true → x.length ≤ z → Q (.str x) H'
def spSize : Sp := fun vs H Q _ => ∃ (p c : Addr) (n : Nat) (m : List V), vs = [.ref p] ∧ Pen H p c n m ∧ n + 100 ≤ PB ∧ m.length ≤ 1 ∧
  ∀ (z : Nat) (m' : List V) (H' : Hp), But p H H' → Pen H' p c (n + 1) m' → m'.length ≤ 1 → 1 ≤ z → z ≤ 32 → Q (.int z) H'
def spPrefixes : Sp := fun vs H Q _ => ∃ (p c : Addr) (n z k : Nat) (m : List V), vs = [.ref p, .int z, .int k] ∧ Pen H p c n m ∧ n + 1000 ≤ PB ∧ z ≤ 32 ∧ k ≤ 20 ∧
  ∀ (l : Addr) (xs : List Str) (H' : Hp), But p H H' → Pen H' p c (n + 1 + 8 * k) m → H l = none → H' l = some (.lst (xs.map V.str)) → PfxL z xs → xs.length ≤ k → Q (.ref l) H'
/-! ### types as isinstance reads them -/
def isIntish : V → Bool
  | .int _ => true
  | .bl _ => true
  | _ => false
def isBoolV : V → Bool
  | .bl _ => true
  | _ => false
def isWholeV : V → Bool
  | .int _ => true
  | _ => false
def isWidthV : V → Bool
  | .int z => decide ((1 : Int) ≤ z) && decide (z ≤ 32)
  | _ => false
structure TyI (K : PySem.W.Frag) (H : Hp) (v : V) (t : String) : Prop where
  ty : TyX K H v (.type t)
  int : PySem.W.kitOne K (.type t) (.type "int") = some (isIntish v)
  bool : PySem.W.kitOne K (.type t) (.type "bool") = some (isBoolV v)
theorem kitv {K : PySem.W.Frag} {t c : String} {b : Bool} (h : kitB t c = some b) : PySem.W.kitOne K (.type t) (.type c) = some b := kit_ty h
theorem TyI.of {K : PySem.W.Frag} {H : Hp} {N : Addr → Prop} {v : V} {d : PyData} (h : Dr K H N v d) : ∃ t, TyI K H v t := by
  cases h with
  | non => exact ⟨_, .base .non, kitv (b := false) (by decide +kernel), kitv (b := false) (by decide +kernel)⟩
  | bl b => exact ⟨_, .base (.bl b), kitv (b := true) (by decide +kernel), kitv (b := true) (by decide +kernel)⟩
  | int i => exact ⟨_, .base (.int i), kitv (b := true) (by decide +kernel), kitv (b := false) (by decide +kernel)⟩
  | str x => exact ⟨_, .base (.str x), kitv (b := false) (by decide +kernel), kitv (b := false) (by decide +kernel)⟩
  | lst _ h _ =>
    rcases h with (h | ⟨o, h⟩) | ⟨o, _, _, h, hc, _⟩
    · exact ⟨_, .base (.lst h), kitv (b := false) (by decide +kernel), kitv (b := false) (by decide +kernel)⟩
    · exact ⟨_, .base (.frz h), kitv (b := false) (by decide +kernel), kitv (b := false) (by decide +kernel)⟩
    · exact ⟨_, .kList h hc, kitv (b := false) (by decide +kernel), kitv (b := false) (by decide +kernel)⟩
  | tup _ h _ =>
    rcases h with (h | ⟨o, h⟩) | ⟨o, _, _, h, hc, _⟩
    · exact ⟨_, .base (.tup h), kitv (b := false) (by decide +kernel), kitv (b := false) (by decide +kernel)⟩
    · exact ⟨_, .fTuple h, kitv (b := false) (by decide +kernel), kitv (b := false) (by decide +kernel)⟩
    · exact ⟨_, .kTuple h hc, kitv (b := false) (by decide +kernel), kitv (b := false) (by decide +kernel)⟩
  | dic _ h _ =>
    rcases h with h | ⟨o, h⟩
    · exact ⟨_, .base (.dK h), kitv (b := false) (by decide +kernel), kitv (b := false) (by decide +kernel)⟩
    · exact ⟨_, .fDict h, kitv (b := false) (by decide +kernel), kitv (b := false) (by decide +kernel)⟩
/-! ### locked and as it was -/
theorem upd_back {H : Hp} {d : Addr} {u o : HO} (h : H d = some u) : upd (upd H d o) d u = H := by
  rw [upd_upd]
  funext b
  by_cases hb : b = d
  · rw [hb, upd_same, h]
  · rw [upd_ne hb]
/-- a dict comprehension over any walk -/
theorem dc_it {J : It} {n : Nat} {G : Hp → Prop} {Y : Nat → Hp → V → Hp → Prop} (w : Walk J n G Y) {g : TG} {tt : TT} {tk tv : TE} {vs : List Nat} {σ : L2.St} {H1 : Hp} {D : Addr} {Qd : Hp → Prop} (Pv : Nat → Hp → Prop) (h0 : Pv 0 (upd H1 D (.dK []))) (hG : ∀ i H, i ≤ n → Pv i H → G H)
    (hs : ∀ i x H H', i < n → Pv i H → Y i H x H' → g x (wipe σ vs) H' fun σ2 H2 => wipe σ2 vs = wipe σ vs ∧ tt σ2 H2 fun b H3 =>
      if b = true then tk σ2 H3 fun y H4 => tv σ2 H4 fun z H5 => ∃ kvs k, y = kV k ∧ H5 D = some (.dK kvs) ∧ kvs.length < sizeLine ∧ Pv (i + 1) (upd H5 D (.dK (putK kvs k z))) else Pv (i + 1) H3) (hd : ∀ H, Pv n H → Qd H) :
    ∃ W : Nat → Nat → Hp → Prop, (∃ m, W 0 m (upd H1 D (.dK []))) ∧ ∀ i m H, W i m H → (J.stop i H ∧ Qd H) ∨ (J.go i H ∧ ∃ Nx : Hp → Prop, (∀ H', Nx H' → ∃ m', m' < m ∧ W (i + 1) m' H') ∧
      ∀ x H', J.yld i H x H' → g x (wipe σ vs) H' fun σ2 H2 => wipe σ2 vs = wipe σ vs ∧ tt σ2 H2 fun b H3 =>
        if b = true then tk σ2 H3 fun y H4 => tv σ2 H4 fun z H5 => ∃ kvs k, y = kV k ∧ H5 D = some (.dK kvs) ∧ kvs.length < sizeLine ∧ Nx (upd H5 D (.dK (putK kvs k z))) else Nx H3) := by
  refine ⟨fun i m H => m + i = n ∧ Pv i H, ⟨n, rfl, h0⟩, ?_⟩
  rintro i m H ⟨hm, p⟩
  have q := hG i H (by omega) p
  rcases Nat.lt_or_ge i n with lt | ge
  · exact .inr ⟨w.goes i H lt q, Pv (i + 1), fun H' p' => ⟨m - 1, by omega, by omega, p'⟩, fun x H' y => hs i x H H' lt p (w.yields i H x H' lt q y)⟩
  · obtain rfl : i = n := by omega
    exact .inl ⟨w.stops H q, hd H p⟩
/-! ### prefixes of texts -/
def Pre (y x : Str) : Prop := sg y <+: sg x
instance (y x : Str) : Decidable (Pre y x) := inferInstanceAs (Decidable (sg y <+: sg x))
theorem startswith_iff (x y : Str) : Txt.startswith x y = decide (Pre y x) := by
  have e : Txt.startswith x y = (decide (0 + y.length ≤ x.length) && ((x.cps.extract 0 (0 + y.length)) == y.cps)) := rfl
  rw [e, Bool.eq_iff_iff, Bool.and_eq_true, decide_eq_true_iff, decide_eq_true_iff, beq_iff_eq]
  have e2 : (x.cps.extract 0 (0 + y.length)).toList = (sg x).take y.length := by simp [sg]
  constructor
  · rintro ⟨_, h⟩
    have h2 : (sg x).take y.length = sg y := by rw [← e2, h]
    show sg y <+: sg x
    rw [← h2]
    exact List.take_prefix _ _
  · intro h
    have h1 : sg y = (sg x).take (sg y).length := List.prefix_iff_eq_take.mp h
    have h3 := h.length_le
    rw [sg_len, sg_len] at h3
    refine ⟨by omega, ?_⟩
    apply Array.toList_inj.mp
    rw [e2, ← sg_len y]
    exact h1.symm
theorem pre_take (x : Str) (k : Nat) : Pre (cutS x none (some (k : Int))) x := by
  show sg _ <+: sg x
  rw [sg_take]
  exact List.take_prefix _ _
theorem pre_eq {x y : Str} (h : Pre y x) : y = cutS x none (some (y.length : Int)) := str_ext (by
  show sg y = sg _
  rw [sg_take, ← sg_len]
  exact List.prefix_iff_eq_take.mp h)
theorem pre_len {x y : Str} (h : Pre y x) : y.length ≤ x.length := by
  have := List.IsPrefix.length_le h
  rw [sg_len, sg_len] at this
  exact this
/-- the longest of xs with which x begins -/
def IsLong (xs : List Str) (x : Str) : Option Str → Prop
  | none => ∀ y ∈ xs, ¬ Pre y x
  | some y => y ∈ xs ∧ Pre y x ∧ ∀ z ∈ xs, Pre z x → z.length ≤ y.length
theorem IsLong.uniq {xs ys : List Str} {x : Str} (hm : ∀ y, y ∈ xs ↔ y ∈ ys) : ∀ {r r' : Option Str}, IsLong xs x r → IsLong ys x r' → r = r'
  | none, none, _, _ => rfl
  | none, some y, h, h' => absurd h'.2.1 (h y ((hm y).mpr h'.1))
  | some y, none, h, h' => absurd h.2.1 (h' y ((hm y).mp h.1))
  | some y, some z, h, h' => by
    have h1 := h.2.2 z ((hm z).mpr h'.1) h'.2.1
    have h2 := h'.2.2 y ((hm y).mp h.1) h.2.1
    have e : y.length = z.length := by omega
    rw [pre_eq h.2.1, pre_eq h'.2.1, e]
def optV : Option Str → V
  | none => .non
  | some x => .str x
/-! ### dicts by texts -/
theorem valV_mem {kvs : List (Key × V)} {k : Key} : (valV kvs k).isSome = true ↔ k ∈ kvs.map (·.1) := by
  unfold valV
  rw [Option.isSome_map, List.find?_isSome, List.mem_map]
  constructor
  · rintro ⟨p, hp, e⟩
    exact ⟨p, hp, of_decide_eq_true e⟩
  · rintro ⟨p, hp, e⟩
    exact ⟨p, hp, decide_eq_true e⟩
theorem inr_mem {kvs : List (Key × V)} {xs : List Str} (h : kvs.map (·.1) = xs.map Sum.inr) (y : Str) : (Sum.inr y : Key) ∈ kvs.map (·.1) ↔ y ∈ xs := by
  rw [h, List.mem_map]
  constructor
  · rintro ⟨z, hz, e⟩
    rw [← Sum.inr.inj e]
    exact hz
  · intro hy
    exact ⟨y, hy, rfl⟩
theorem key_at {kvs : List (Key × V)} {xs : List Str} (h : kvs.map (·.1) = xs.map Sum.inr) {i : Nat} {k : Key} {v : V} (e : kvs[i]? = some (k, v)) : ∃ y, xs[i]? = some y ∧ k = .inr y := by
  have h1 : (kvs.map (·.1))[i]? = some k := by rw [List.getElem?_map, e]; rfl
  rw [h, List.getElem?_map] at h1
  cases hx : xs[i]? with
  | none => rw [hx] at h1; cases h1
  | some y =>
    rw [hx] at h1
    exact ⟨y, rfl, (Option.some.inj h1).symm⟩
theorem valV_some {kvs : List (Key × V)} (nd : (kvs.map (·.1)).Nodup) {k : Key} {v : V} (h : (k, v) ∈ kvs) : valV kvs k = some v := by
  induction kvs with
  | nil => cases h
  | cons p r ih =>
    obtain ⟨k', v'⟩ := p
    rw [List.map_cons, List.nodup_cons] at nd
    rcases List.mem_cons.mp h with e | h
    · cases e
      exact valV_pos rfl
    · have hne : k' ≠ k := fun e => nd.1 (by rw [e]; exact List.mem_map.mpr ⟨_, h, rfl⟩)
      have hz := ih nd.2 h
      unfold valV at hz ⊢
      rw [List.find?_cons_of_neg (by simpa using hne)]
      exact hz
/-! ### the lines of a law: a new dict by drawn prefixes -/
theorem SqT.but {K : PySem.W.Frag} {p a : Addr} {H H' : Hp} {o : List V} {xs : List V} (e : But p H H') (hp : H p = some (.lst o)) (h : SqT K H a xs) : SqT K H' a xs := by
  rcases h with (h | ⟨u, h⟩) | h
  · exact .inl (.inl (e _ _ (ne_of h hp (fun z => nomatch z)) h))
  · exact .inl (.inr ⟨u, e _ _ (ne_of h hp (fun z => nomatch z)) h⟩)
  · exact .inr h
theorem SqT.same {K : PySem.W.Frag} {a : Addr} {H H' : Hp} {xs : List V} (e : Same H H') (h : SqT K H a xs) : SqT K H' a xs := by
  rcases h with (h | ⟨u, h⟩) | h
  · exact .inl (.inl (e _ _ h))
  · exact .inl (.inr ⟨u, e _ _ h⟩)
  · exact .inr h
def spLines (vok : V → Prop) (most : Nat) : Sp := fun vs H Q _ => ∃ (p c : Addr) (n z : Nat) (m : List V), vs = [.ref p, .int z] ∧ Pen H p c n m ∧ n + 1000 ≤ PB ∧ z ≤ 32 ∧
  ∀ (d : Addr) (xs : List Str) (kvs : List (Key × V)) (H' : Hp), But p H H' → H d = none → H' d = some (.dK kvs) → RowsOk z vok xs kvs → xs.length ≤ most → Pen H' p c (n + 200) m → Q (.ref d) H'
theorem Pen.lst {H : Hp} {p c : Addr} {n : Nat} {m : List V} (h : Pen H p c n m) : ∃ o, H p = some (.lst o) := by
  obtain ⟨ns, i, s, h⟩ := h
  exact ⟨_, h.at_⟩
/-- the loop of such a dict: pairs of a prefix and a value that is drawn -/
structure PairsAt (K : PySem.W.Frag) (H : Hp) (D : Addr) (vok : V → Prop) (xs : List Str) (ps : List Addr) (kvs : List (Key × V)) : Prop where
  at_ : H D = some (.lst (ps.map V.ref))
  prs : Paired (fun a kv => SqT K H a [kV kv.1, kv.2]) ps kvs
  keys : kvs.map (·.1) = xs.map Sum.inr
  val : ∀ kv ∈ kvs, vok kv.2
theorem PairsAt.but {K : PySem.W.Frag} {H H' : Hp} {D p : Addr} {vok : V → Prop} {xs : List Str} {ps : List Addr} {kvs : List (Key × V)} {o : List V} (h : PairsAt K H D vok xs ps kvs) (e : But p H H') (hp : H p = some (.lst o)) (hD : D ≠ p) : PairsAt K H' D vok xs ps kvs :=
  ⟨e _ _ hD h.at_, h.prs.mono fun _ _ t => SqT.but e hp t, h.keys, h.val⟩
theorem PairsAt.same {K : PySem.W.Frag} {H H' : Hp} {D : Addr} {vok : V → Prop} {xs : List Str} {ps : List Addr} {kvs : List (Key × V)} (h : PairsAt K H D vok xs ps kvs) (e : Same H H') : PairsAt K H' D vok xs ps kvs :=
  ⟨e _ _ h.at_, h.prs.mono fun _ _ t => SqT.same e t, h.keys, h.val⟩
theorem PairsAt.snoc {K : PySem.W.Frag} {H : Hp} {D : Addr} {vok : V → Prop} {xs : List Str} {ps : List Addr} {kvs : List (Key × V)} (h : PairsAt K H D vok xs ps kvs) {y : Str} {v : V} (hv : vok v) {t : Addr} (ht : H t = none) :
    PairsAt K (upd (upd H t (.tup [.str y, v])) D (.lst (ps.map V.ref ++ [.ref t]))) D vok (xs ++ [y]) (ps ++ [t]) (kvs ++ [(.inr y, v)]) := by
  have nt : t ≠ D := fun e => by
    rw [e, h.at_] at ht
    cases ht
  refine ⟨by rw [upd_same, List.map_append]; rfl, Paired.snoc (h.prs.mono fun a kv q => ?_) (.inl (.inl (by rw [upd_ne nt, upd_same]; rfl))), by rw [List.map_append, List.map_append, h.keys]; rfl, fun kv hk => ?_⟩
  · refine SqT.but (p := D) (H := upd H t (.tup [.str y, v])) .upd (by rw [upd_ne nt.symm]; exact h.at_) (SqT.same (same_upd ht) q)
  · rcases List.mem_append.mp hk with hk | hk
    · exact h.val kv hk
    · rw [List.mem_singleton.mp hk]
      exact hv
theorem pair_merge {K : PySem.W.Frag} {H : Hp} {D : Addr} {vok : V → Prop} {xs : List Str} {ps : List Addr} {kvs : List (Key × V)} (h : PairsAt K H D vok xs ps kvs) (nd : xs.Nodup) : mergeK [] kvs = kvs := by
  have e : (([] ++ kvs : List (Key × V)).map (·.1)).Nodup := by
    rw [List.nil_append, h.keys]
    exact nd.map Sum.inr (fun a b h e => h (Sum.inr.inj e))
  rw [mergeK_nd kvs [] e, List.nil_append]
/-- such a list made one longer: what stood else is as it was -/
theorem pairs_old {H H1 H3 : Hp} {D t p : Addr} {o1 o2 : HO} (hD : H D = none) (b1 : But p H H1) (b3 : But p H1 H3) (ht : H3 t = none) : But p H (upd (upd H3 t o1) D o2) := fun a o na ha => by
  have h1 := b3 a o na (b1 a o na ha)
  rw [upd_ne (ne_of_none ha hD), upd_ne (ne_of_none h1 ht)]
  exact h1
/-! ### lists of spots -/
theorem sg_mul (c n : Nat) : sg (Txt.mul ⟨#[c]⟩ (n : Int)) = List.replicate n c := by
  unfold Txt.mul
  by_cases h0 : (n : Int) < 1
  · rw [if_pos h0]
    have : n = 0 := by omega
    subst this
    rfl
  · rw [if_neg h0]
    by_cases h1 : n = 1
    · subst h1
      rfl
    · have e : (((n : Int) == 1) || ((⟨#[c]⟩ : Str).length == 0)) = false := by
        rw [show ((n : Int) == 1) = false from beq_eq_false_iff_ne.mpr (by omega)]
        rfl
      rw [e, if_neg Bool.false_ne_true]
      show ((List.replicate ((n : Int)).toNat (#[c] : Array Nat)).foldl (· ++ ·) #[]).toList = _
      rw [foldl_app, Int.toNat_natCast, List.map_replicate]
      show [] ++ (List.replicate n [c]).flatten = _
      rw [List.nil_append]
      induction n with
      | zero => rfl
      | succ k ih => 
        clear ih h0 h1 e
        induction k with
        | zero => rfl
        | succ j ih => rw [List.replicate_succ, List.flatten_cons, ih]; rfl
theorem zero_is : ("0" : Str) = ⟨#[48]⟩ := by decide +kernel
theorem one_is : ("1" : Str) = ⟨#[49]⟩ := by decide +kernel
theorem mul_ok1 {x : Str} {n : Nat} (hx : x.length ≤ 1) (hn : n ≤ 1000) : MulOk x (n : Int) := mulOk_of 1 1000 hx (by omega) (by omega) (by decide) (by decide)
theorem zeros_bits (n : Nat) : isBits (Txt.mul "0" (n : Int)) = true ∧ (Txt.mul "0" (n : Int)).length = n := by
  rw [zero_is]
  refine ⟨bits_iff.mpr fun c hc => ?_, ?_⟩
  · rw [sg_mul] at hc
    exact .inl (List.mem_replicate.mp hc).2
  · rw [← sg_len, sg_mul, List.length_replicate]
theorem ones_bits (n : Nat) : isBits (Txt.mul "1" (n : Int)) = true ∧ (Txt.mul "1" (n : Int)).length = n := by
  rw [one_is]
  refine ⟨bits_iff.mpr fun c hc => ?_, ?_⟩
  · rw [sg_mul] at hc
    exact .inr (List.mem_replicate.mp hc).2
  · rw [← sg_len, sg_mul, List.length_replicate]
/-- texts of bits, none longer than z -/
def AllS (z : Nat) (vs : List V) : Prop := ∀ v ∈ vs, ∃ x, v = .str x ∧ isBits x = true ∧ x.length ≤ z
theorem AllS.nil {z : Nat} : AllS z [] := fun _ h => absurd h List.not_mem_nil
theorem AllS.app {z : Nat} {vs us : List V} (h : AllS z vs) (h' : AllS z us) : AllS z (vs ++ us) := fun v hv => (List.mem_append.mp hv).elim (h v) (h' v)
theorem AllS.one {z : Nat} {x : Str} (h1 : isBits x = true) (h2 : x.length ≤ z) : AllS z [.str x] := fun v hv => ⟨x, List.mem_singleton.mp hv, h1, h2⟩
theorem AllS.rev {z : Nat} {vs : List V} (h : AllS z vs) : AllS z vs.reverse := fun v hv => h v (List.mem_reverse.mp hv)
theorem AllS.strs {z : Nat} {xs : List Str} (h : PfxL z xs) : AllS z (xs.map V.str) := fun v hv => by
  obtain ⟨x, hx, rfl⟩ := List.mem_map.mp hv
  exact ⟨x, rfl, h.bits x hx, h.len x hx⟩
theorem big_of {n : Nat} (h : n ≤ 1000) : n ≤ sizeLine := Nat.le_trans h (by decide)
theorem big_lt {n : Nat} (h : n ≤ 1000) : n < sizeLine := Nat.lt_of_le_of_lt h (by decide)
/-! ### rows whatever their order and however often they come -/
structure RowsAcc (w : Nat) (vok : V → Prop) (kvs : List (Key × V)) : Prop where
  nd : (kvs.map (·.1)).Nodup
  all : ∀ kv ∈ kvs, ∃ y, kv.1 = .inr y ∧ isBits y = true ∧ y.length ≤ w ∧ vok kv.2
theorem RowsAcc.put {w : Nat} {vok : V → Prop} {kvs : List (Key × V)} (h : RowsAcc w vok kvs) {y : Str} {v : V} (h1 : isBits y = true) (h2 : y.length ≤ w) (h3 : vok v) : RowsAcc w vok (putK kvs (.inr y) v) := by
  by_cases hm : (Sum.inr y : Key) ∈ kvs.map (·.1)
  · have e : putK kvs (.inr y) v = kvs.map (fun kv => if kv.1 = .inr y then (kv.1, v) else kv) := by
      unfold putK
      rw [if_pos]
      obtain ⟨p, hp, e⟩ := List.mem_map.mp hm
      exact List.any_eq_true.mpr ⟨p, hp, decide_eq_true e⟩
    rw [e]
    constructor
    · rw [List.map_map]
      have e2 : (Prod.fst ∘ fun kv : Key × V => if kv.1 = .inr y then (kv.1, v) else kv) = Prod.fst := by
        funext kv
        show (if kv.1 = .inr y then (kv.1, v) else kv).1 = kv.1
        split <;> rfl
      rw [e2]
      exact h.nd
    · intro kv hkv
      obtain ⟨p, hp, rfl⟩ := List.mem_map.mp hkv
      by_cases hy : p.1 = .inr y
      · rw [if_pos hy]
        exact ⟨y, hy, h1, h2, h3⟩
      · rw [if_neg hy]
        exact h.all p hp
  · rw [putK_end hm]
    constructor
    · rw [List.map_append, List.nodup_append]
      refine ⟨h.nd, List.nodup_cons.mpr ⟨List.not_mem_nil, List.nodup_nil⟩, fun a ha b hb e => hm ?_⟩
      have e2 : b = .inr y := List.mem_singleton.mp hb
      rw [← e2, ← e]
      exact ha
    · intro kv hkv
      rcases List.mem_append.mp hkv with hkv | hkv
      · exact h.all kv hkv
      · rw [List.mem_singleton.mp hkv]
        exact ⟨y, rfl, h1, h2, h3⟩
theorem RowsAcc.merge {w : Nat} {vok : V → Prop} : ∀ {more kvs : List (Key × V)}, RowsAcc w vok kvs → (∀ kv ∈ more, ∃ y, kv.1 = .inr y ∧ isBits y = true ∧ y.length ≤ w ∧ vok kv.2) → RowsAcc w vok (mergeK kvs more)
  | [], _, h, _ => h
  | (k, v) :: r, kvs, h, hm => by
    obtain ⟨y, e, h1, h2, h3⟩ := hm (k, v) List.mem_cons_self
    have e' : k = .inr y := e
    subst e'
    show RowsAcc w vok (mergeK (putK kvs (.inr y) v) r)
    exact RowsAcc.merge (h.put h1 h2 h3) fun kv hk => hm kv (List.mem_cons_of_mem _ hk)
theorem RowsAcc.ok {w : Nat} {vok : V → Prop} {kvs : List (Key × V)} (h : RowsAcc w vok kvs) : ∃ xs, RowsOk w vok xs kvs ∧ xs.length = kvs.length := by
  have key : ∀ l : List (Key × V), (∀ kv ∈ l, ∃ y, kv.1 = .inr y ∧ isBits y = true ∧ y.length ≤ w ∧ vok kv.2) → ∃ xs : List Str, l.map (·.1) = xs.map Sum.inr ∧ (∀ x ∈ xs, isBits x = true ∧ x.length ≤ w) := by
    intro l
    induction l with
    | nil => exact fun _ => ⟨[], rfl, fun _ h => absurd h List.not_mem_nil⟩
    | cons p r ih =>
      intro hl
      obtain ⟨xs, e, hx⟩ := ih fun kv hk => hl kv (List.mem_cons_of_mem _ hk)
      obtain ⟨y, ey, h1, h2, _⟩ := hl p List.mem_cons_self
      refine ⟨y :: xs, by rw [List.map_cons, List.map_cons, e, ey], fun x hx' => ?_⟩
      rcases List.mem_cons.mp hx' with rfl | hx'
      · exact ⟨h1, h2⟩
      · exact hx x hx'
  obtain ⟨xs, e, hx⟩ := key kvs h.all
  refine ⟨xs, ⟨e, ⟨?_, fun x hx' => (hx x hx').1, fun x hx' => (hx x hx').2⟩, fun kv hk => by obtain ⟨_, _, _, _, h⟩ := h.all kv hk; exact h⟩, ?_⟩
  · have hn := h.nd
    rw [e] at hn
    exact List.Pairwise.of_map Sum.inr (fun a b h e => h (by rw [e])) hn
  · have := congrArg List.length e
    rw [List.length_map, List.length_map] at this
    exact this.symm
/-! ### super().__init__(a, ..) -/
/-- an __init__ that calls its base's: its def at f, the cell of its class at cc -/
structure FunS (K : PySem.W.Frag) (file : Str) (x qual : Str) (st : Stmt) (f D : Addr) (fd : FuncData) : Prop where
  ex : ∃ (oc : Value) (od : Option Addr) (kV doc pm : Value) (an : Option Addr) (cda cc : Addr) (ct : Value) (osl : Array (Option Value)) (ck : Value) (cd : Option Addr) (vs : Array Value) (cs : Array (Option Value)) (tf : Tok) (lk : Value) (ld : Option Addr) (ls : Array (Option Value)),
    fd = PySem.W.ksFn x qual (defArgs st) (defBody st) (defScope st) .none kV doc pm an (.ref cda) ct cc ∧ K.lookup f = some ⟨oc, od, .func fd, osl⟩ ∧ PySem.W.codeIn K (.ref cda) qual = true ∧
    K.lookup cda = some ⟨ck, cd, .fields vs, cs⟩ ∧ vs[2]? = some (.str file tf) ∧ K.lookup cc = some ⟨lk, ld, .cell (some (.ref D)), ls⟩
  kp : PySem.W.keepIn K (.ref f) = true
/-- the scope of such a def: its parameters alone, and the cell -/
structure ScS (ps : List Str) (sc : Scope) : Prop where
  kind : sc.kind = .function
  co : sc.isCoroutine = false
  gen : sc.isGenerator = false
  nd : ps.Nodup
  par : ∀ x ∈ ps, sc.names.lookup x = some .local
  nocell : ∀ y ∈ sc.names, y.2 ≠ .cell
  free : ∀ y ∈ sc.names, y.2 = .free → y.1 = "__class__"
  sup : sc.names.lookup ("super" : Str) = some .globalImplicit
  cls : sc.names.lookup ("__class__" : Str) = some .free
theorem rev_get {x : Str} {v : Value} : ∀ {P : List Str} {vs : List Value} {i : Nat}, P.Nodup → P[i]? = some x → vs[i]? = some v → (P.zip vs).reverse.lookup x = some v
  | [], _, _, _, h, _ => by simp at h
  | _ :: _, [], _, _, _, h => by simp at h
  | p :: P, w :: vs, 0, nd, h1, h2 => by
    obtain rfl : p = x := by simpa using h1
    obtain rfl : w = v := by simpa using h2
    have out : (P.zip vs).reverse.lookup p = none := by
      rw [List.lookup_eq_none_iff]
      intro q hq
      have hq' := List.mem_reverse.mp hq
      have : q.1 ∈ P := (List.of_mem_zip (a := q.1) (b := q.2) hq').1
      have ne : p ≠ q.1 := by rintro e; exact (List.nodup_cons.mp nd).1 (e ▸ this)
      simpa using ne
    show ((p, w) :: P.zip vs).reverse.lookup p = _
    rw [List.reverse_cons, List.lookup_append, out]
    simp
  | p :: P, w :: vs, i + 1, nd, h1, h2 => by
    have := rev_get (i := i) (List.nodup_cons.mp nd).2 (by simpa using h1) (by simpa using h2)
    show ((p, w) :: P.zip vs).reverse.lookup x = _
    rw [List.reverse_cons, List.lookup_append, this]
    rfl
/-- the context of its body -/
def cxS (P : Program) (w : World) (K : PySem.W.Frag) (mg : Str → Option Value) (base : Heap) (N : List Str) (qual : Str) (scope : Scope) (f : Addr) (cd : Value) (cc : Addr) (A : Around) (outer : List Env) (s : Shared) (H : Hp) : Cx where
  prog := P
  w := w
  K := K
  mg := mg
  base := base
  A := A.deeper (PySem.W.ksEnv qual scope s.heap.objs.size f cd cc)
  N := N
  s_0 := s
  H_0 := H
  env := PySem.W.ksEnv qual scope s.heap.objs.size f cd cc
  outer := outer
  stack := PySem.W.ksEnv qual scope s.heap.objs.size f cd cc :: outer
  ex := []
  calm := true
  fn := fun _ => false
  pn := []
  xe := fun _ _ => False
section
variable {P : Program} {w : World} {K : PySem.W.Frag} {mg : Str → Option Value} {base : Heap}
theorem inv_super {ps : List Str} {qual : Str} {scope : Scope} {f cc : Addr} {cd : Value} {A : Around} {outer : List Env} {s : Shared} {h1 : Heap} {tk : Nat} {H : Hp} {us : List Value} {vs : List V} {D : Addr} {lk : Value} {ld : Option Addr} {ls : Array (Option Value)}
    (S : ScS ps scope) (hd : A.handled = none) (e0 : Env0 P w K mg base A outer s H) (hl : vs.length = ps.length) (r : Vals vs us) (hcc : K.lookup cc = some ⟨lk, ld, .cell (some (.ref D)), ls⟩)
    (ns : h1.Ns s.heap.objs.size (fun y => (ps.zip us).reverse.lookup y)) (hk : ∀ b o, s.heap.get? b = some o → h1.get? b = some o) :
    Inv (cxS P w K mg base ps qual scope f cd cc A outer s H) [] (vs.map some) H { s with heap := h1, toks := tk } := by
  have KX : K.In s.heap := e0.mod.kin.keeps fun b o e => (e0.bs b o e).1
  have one : ∀ {x : Str} {c : Addr}, ([("__class__", cc)] : List (Str × Addr)).lookup x = some c → x = "__class__" ∧ c = cc := by
    intro x c h
    simp only [List.lookup] at h
    split at h
    · rename_i q
      exact ⟨by simpa using q, by cases h; rfl⟩
    · cases h
  have hcb : base.get? cc = some ⟨lk, ld, .cell (some (.ref D)), ls⟩ := e0.mod.kin _ _ hcc
  have noA : ∀ b : Addr, b ∉ (cxS P w K mg base ps qual scope f cd cc A outer s H).ex := fun b z => absurd (show b ∈ ([] : List Addr) from z) (by simp)
  refine ⟨⟨e0.mod, S.kind, rfl, rfl, Nat.le_refl _, fun y z c h1 h2 => (one h1).1.trans (one h2).1.symm, fun y hy => ?_, fun y c q _ => absurd (show false = true from q) (by decide), fun _ => hd, Around.frames_deeper e0.frames, .inr ⟨rfl, rfl⟩, fun b z => absurd z (noA b), e0.bs, e0.bsz, fun b _ _ => noA b, fun b z => absurd z (noA b), e0.funs, e0.frf⟩,
    rfl, e0.bare, Un.kept hk, ⟨_, ns, fun i y v g1 g2 g3 => ?_⟩, fun y c h => ?_, e0.hok.fresh (Nat.le_refl _), fun y c h => ?_, fun p hp => absurd (show p ∈ ([] : List (Addr × Obj)) from hp) (by simp), e0.hok.kept hk, ?_⟩
  · have hy : scope.names.lookup y = some .cell ∨ scope.names.lookup y = some .free := hy
    rcases hy with hy | hy
    · exact absurd rfl (S.nocell _ (PySem.mem_of_lookup hy))
    · obtain rfl := S.free _ (PySem.mem_of_lookup hy) rfl
      exact ⟨cc, rfl⟩
  · have g2' : (vs.map some)[i]? = some (some v) := g2
    rw [List.getElem?_map] at g2'
    obtain ⟨v', ha, e⟩ := Option.map_eq_some_iff.mp g2'
    obtain rfl : v' = v := Option.some.inj e
    obtain ⟨u, hu, rv⟩ := r.get ha
    exact ⟨u, rv, .inl ⟨S.par y (List.mem_of_getElem? g1), rev_get S.nd g1 hu⟩⟩
  · obtain ⟨rfl, rfl⟩ := one h
    exact ⟨_, _, hk _ _ (KX _ _ hcc), rfl⟩
  · obtain ⟨rfl, rfl⟩ := one h
    exact (e0.bs _ _ hcb).2
  · show (vs.map some).length = ps.length
    rw [List.length_map, hl]
/-- the first statement super().__init__(a, ..), then the rest -/
theorem ok_super {x qual : Str} {st : Stmt} {f f2 C D : Addr} {fd : FuncData} {ps : List Str} {k : Nat} {file self : Str} {sp sp2 : Sp} {rest : List Stmt} {e : Expr} {es : List Expr} {p0 p1 ap pos sps : Pos} {m : Str}
    (F : FunS K file x qual st f D fd) (S : ScS ps (defScope st)) (G2 : FnR P w K mg base CX0 k f2 sp2) (fi : PySem.W.fnIn K f2 = true) (ty : PySem.W.typeIn K (.ref f2) = some (.type "function"))
    (hcd : ∃ cdD, PySem.W.clsIn K D = some cdD) (hsub : PySem.W.mroIn K C (.ref D) = some true) (hm : PySem.W.ks_superIn K C D m = some (some (.ref f2))) (hop : PySem.W.nsIn K cStatics "thirdparty.any" = some none) (hsu : mg "super" = none)
    (hfile : ((P.main.file : Str) == file) = true) (htop : (P.main.scope.names.lookup ("super" : Str)).isSome = false)
    (hb : defBody st = .Expr (.Call (.Attribute (.Call (.Name "super" p0) [] [] p1) m ap) (e :: es) [] pos) sps :: rest) (hself : ∃ ar, ((defArgs st).posonlyargs ++ (defArgs st).args).head? = some ar ∧ ar.arg = self) (h0 : ps[0]? = some self)
    (hn : (m == ("__class__" : Str)) = false)
    (hev : ∀ env, ∃ pl, eval (.Call (.Attribute (.Call (.Name "super" p0) [] [] p1) m ap) (e :: es) [] pos) env = (do
      let ov ← attributeBase (.Call (.Name "super" p0) [] [] p1) m env (eval (.Call (.Name "super" p0) [] [] p1) env)
      standAt ap.atName
      let (g, first) ← holding [ov] (getMethod ov m pl)
      callWith pos g first (backTo pos (starEach (e :: es) env)) []))
    (hsw : ∀ env, swapsWith (.Call (.Attribute (.Call (.Name "super" p0) [] [] p1) m ap) (e :: es) [] pos) none sps.line env = pure false)
    (hst : ∀ env, starEach (e :: es) env = (false, eval e env) :: starEach es env) (hpl : ∀ env, (backTo pos (starEach es env)).any (·.1) = false)
    (many : ∀ vs H Q E, sp vs H Q E → vs.length = ps.length) (hE : ∀ {vs H Q E}, sp vs H Q E → sp vs H Q E0)
    (want : ∀ (A : Around) (cda cc : Addr) (outer : List Env) (s : Shared) (H : Hp) (vs : List V) (Q : VK), Room (k + 1) A → sp vs H Q E0 → ∃ (x dx : Addr) (fs : List (Str × V)) (t : TA) (u : TS), vs[0]? = some (.ref x) ∧ H x = some (.ins C dx fs) ∧ PA (cxS P w K mg base ps qual (defScope st) f (.ref cda) cc A outer s H) (e :: es) t ∧
      PSs (cxS P w K mg base ps qual (defScope st) f (.ref cda) cc A outer s H) rest u ∧ t (vs.map some) H (fun ws H1 => sp2 (.ref x :: ws) H1 (fun _ H2 => u { nx := fun _ H' => Q .non H', rt := Q } (vs.map some) H2) E0)) :
    FnOk P w K mg base CX0 (k + 1) f fd ps sp := by
  refine ⟨many, fun A outer s H args us vs Q E hr e0 bind rel hsp => ?_⟩
  obtain ⟨oc, od, kV, doc, pm, an, cda, cc, ct, osl, ck, cdd, cvs, ccs, tf, lk, ld, ls, rfl, lf, hcode, lcda, hvs, lcc⟩ := F.ex
  have old : ∀ b o, base.get? b = some o → s.heap.get? b = some o := fun b o e => (e0.bs b o e).1
  have KX : K.In s.heap := e0.mod.kin.keeps old
  have lim : s.heap.NoLimit := e0.mod.nolimit.keeps old
  refine ks_codeAny_call_defAt (body := defBody st) (binds := ps.zip us) hr.depth (KX _ _ lf) rfl lim (PySem.W.codeRec_of KX hcode) rfl bind S.nocell (fun y hy => S.par _ (List.of_mem_zip (a := y.1) (b := y.2) hy).1) (fun h1 ns hk => ?_) S.co S.gen S.kind
  have I := inv_super (qual := qual) (f := f) (cd := .ref cda) (tk := s.toks + (ps.zip us).length) S hr.hd e0 (many _ _ _ _ hsp) rel lcc ns hk
  obtain ⟨x, dx, fs, t, u, hx0, hx, pa, pr, q⟩ := want A cda cc outer s H vs Q hr (hE hsp)
  obtain ⟨mA, O, _⟩ := ins_get I.hok hx
  obtain ⟨od', J, _⟩ := O.look
  obtain ⟨cdD, hcD⟩ := hcd
  have KX1 := I.kIn
  obtain ⟨oD, hD1, hD2⟩ : ∃ oD, h1.get? D = some oD ∧ oD.data = .cls cdD := by
    have hcD' := hcD
    unfold PySem.W.clsIn at hcD'
    split at hcD'
    · rename_i ho
      cases hcD'
      exact ⟨_, KX1 _ _ ho, rfl⟩
    · cases hcD'
  obtain ⟨mb, hb1, hb2⟩ := I.mod.blt
  obtain ⟨ar, har, ear⟩ := hself
  obtain ⟨ux, hux, rux⟩ := rel.get hx0
  obtain rfl : ux = Value.ref x := rux
  have hC : ∃ cdC, PySem.W.clsIn K C = some cdC := by
    cases z : PySem.W.clsIn K C with
    | some c => exact ⟨c, rfl⟩
    | none =>
      unfold PySem.W.ks_superIn at hm
      rw [z] at hm
      cases hm
  obtain ⟨cdC, hcC⟩ := hC
  have hm' : PySem.W.alongIn K m ((cdC.mro.dropWhile (· != .ref D)).drop 1) = some (some (.ref f2)) := by
    unfold PySem.W.ks_superIn at hm
    rw [hcC] at hm
    exact hm
  have key : PySem.wpAt (model P w) (cxS P w K mg base ps qual (defScope st) f (.ref cda) cc A outer s H).A (.func (defBody st) (cxS P w K mg base ps qual (defScope st) f (.ref cda) cc A outer s H).env) (execs (defBody st) (cxS P w K mg base ps qual (defScope st) f (.ref cda) cc A outer s H).env)
      (SP (cxS P w K mg base ps qual (defScope st) f (.ref cda) cc A outer s H) [] { nx := fun _ H' => Q .non H', rt := Q }) (fun _ _ => False) { s with heap := h1, toks := s.toks + (ps.zip us).length } := by
    have e1 := congrArg (fun b => execs b (cxS P w K mg base ps qual (defScope st) f (.ref cda) cc A outer s H).env) hb
    rw [show execs (defBody st) (cxS P w K mg base ps qual (defScope st) f (.ref cda) cc A outer s H).env = _ from e1]
    obtain ⟨pl, epl⟩ := hev (cxS P w K mg base ps qual (defScope st) f (.ref cda) cc A outer s H).env
    refine ks_wpAt_execs_cons (ks_wpAt_Expr_any (ks_wpAt_MethodCall ?_ epl) (by show ((defScope st).kind == .module && _) = false; rw [S.kind]; rfl) (hsw _))
    refine ks_wpAt_super_base S.sup S.cls hn rfl (KX1 _ _ lf) rfl har rfl (KX1 _ _ lcda) rfl hvs hfile htop ?_
    refine PySem.W.ks_loadName_global S.kind S.sup (PySem.Calls.loadGlobal_builtin (I.mod.glob.keeps I.bk) hsu (hb1.keeps I.bk) ((hb2 _ (by decide)).trans (by rfl)) ⟨rfl, ?_⟩)
    refine wpAny_loadName_free S.kind S.cls rfl ⟨_, KX1 _ _ lcc, rfl⟩ ?_
    refine wpAny_loadName_local S.kind (by rw [ear]; exact S.par self (List.mem_of_getElem? h0)) ns (by rw [ear]; exact rev_get S.nd h0 hux) ?_
    refine ks_wpAny_isType_cls hD1 hD2 ⟨rfl, ?_⟩
    refine ks_wpAny_call_super hD1 hD2 J.at_ J.cls (fun c e => ?_) (PySem.W.looks_mroIn KX1 hsub) (fun h' e ke => ?_)
    · have z := J.no
      unfold PySem.W.notCls at z
      rw [e] at z
      cases z
    have I1 := ClX.pin_new (t' := s.toks + (ps.zip us).length) I ke (Nat.le_refl _) e (fun v z => nomatch z)
    obtain ⟨of2, hof2, hof2c⟩ : ∃ of, h'.get? f2 = some of ∧ of.cls = .type "function" := by
      have ty' : (K.lookup f2).map (·.cls) = some (.type "function") := ty
      obtain ⟨of, z1, z2⟩ := Option.map_eq_some_iff.mp ty'
      exact ⟨of, I1.kIn _ _ z1, z2⟩
    refine ks_wpAny_getMethod_super e (PySem.W.looks_opaque I1.kIn hop) (l₀ := cdC.mro) (fun A Q E s k q => wpAny_bind ((PySem.W.looks_clsIn I1.kIn hcC) A _ E s k (wpAny_pure q))) rfl I1.kIn hm' hof2 hof2c (PySem.W.ks_ne KX1 J hcC) hn ?_
    have I2 := ClX.met_new (g := f2) (C := x) I1
    refine ClX.callwith_cm I2 (ClX.base_none I1 (Nat.le_refl _)) fi (thn (pa.run pos _ _ _ H _ I2 q) fun ws s3 ⟨zs, H2, I3, rv, q2⟩ => ⟨⟨ClX.pin_at I3, I3.kIn⟩, ?_⟩) (hst _) (hpl _)
    refine thn (ClX.run_cm G2 (hr.deeper _) pass0 I3 rv q2) fun r s4 ⟨v4, H4, I4, _, q4⟩ => ?_
    exact PySem.wpAt_of_wpAny (pr.run [] _ _ H4 _ (ClX.unpin I4) q4)
  refine ks_wpAt_mono key (fun fl s' hs => ?_) fun _ _ z => False.elim z
  cases fl with
  | ret v =>
    obtain ⟨v', σ', H', J, rv, q⟩ := hs
    exact ⟨v', H', J.os, J.bare, J.base, J.hok, rv, q⟩
  | next =>
    obtain ⟨σ', H', J, q⟩ := hs
    exact ⟨V.non, H', J.os, J.bare, J.base, J.hok, rfl, q⟩
  | brk =>
    obtain ⟨_, _, _, q⟩ := hs
    exact q.elim
  | cont =>
    obtain ⟨_, _, _, q⟩ := hs
    exact q.elim
end
/-! ### sets of texts -/
/-- the text that an entry of a set's table holds -/
def txV : Value → Str
  | .str k _ => k
  | _ => Str.empty
def txOf (e : Int × Value) : Str := txV e.2
/-- an entry is a text with its own hash -/
def TxE (w : World) (e : Int × Value) : Prop := ∃ k u, e.2 = Value.str k u ∧ e.1 = hashStr w k
/-- the table of a set whose members are ks -/
structure TxT (w : World) (es : Array (Int × Value)) (t : SetTable) (ks : List Str) : Prop where
  ent : ∀ e ∈ es.toList, TxE w e
  mem : (es.toList.map txOf).Perm ks
  nd : ks.Nodup
  few : es.size < scanBound
  fit : t.fits es.size = true
  ris : Ris t.place.toList
  led : w.params.followText "set-order" = true ∨ t.led = true
/-- at a the set of the texts ks -/
def TxS (w : World) (h : Heap) (a : Addr) (ks : List Str) : Prop := ∃ (o : Obj) (es : Array (Int × Value)) (ep : Nat) (t : SetTable), h.get? a = some o ∧ o.ExactSet ∧ o.data = .set es ep t ∧ TxT w es t ks
theorem TxS.keep {w : World} {h h' : Heap} {a : Addr} {ks : List Str} (R : TxS w h a ks) (k : ∀ o, h.get? a = some o → h'.get? a = some o) : TxS w h' a ks :=
  let ⟨o, es, ep, t, ho, r⟩ := R
  ⟨o, es, ep, t, k o ho, r⟩
theorem tx_is {P : Program} {w : World} {e : Int × Value} (g : TxE w e) (k : Str) : (PySem.strKind P w).is k e.2 = true ↔ txOf e = k := by
  obtain ⟨k0, u, h1, _⟩ := g
  have z : txOf e = k0 := by unfold txOf; rw [h1]; rfl
  rw [z, h1]
  constructor
  · intro q
    exact (PySem.strKind P w).inj _ _ _ (strKind_is P w k0 u) q
  · rintro rfl
    exact strKind_is P w _ u
section
variable {P : Program} {w : World} {A : Around} {E : Value → Shared → Prop} {s : Shared} {a : Addr}
theorem TxT.elems {es : Array (Int × Value)} {t : SetTable} {ks : List Str} (T : TxT w es t ks) : ElemsOf (PySem.strKind P w) es.toList := fun e he => by
  obtain ⟨k, u, h1, h2⟩ := T.ent e he
  exact ⟨⟨k, by rw [h1]; exact strKind_is P w k u, h2⟩, by rw [h1]; rfl⟩
theorem TxT.relaid {es es' : Array (Int × Value)} {t t' : SetTable} {ks : List Str} (T : TxT w es t ks) (p : es'.toList.Perm es.toList) (hf : t'.fits es'.size = true) (hr : Ris t'.place.toList) (hl : t'.led = t.led) : TxT w es' t' ks := by
  have n : es'.size = es.size := by
    rw [← Array.length_toList, ← Array.length_toList]
    exact p.length_eq
  exact ⟨fun e he => T.ent e (p.mem_iff.mp he), (p.map txOf).trans T.mem, T.nd, n ▸ T.few, hf, hr, by rw [hl]; exact T.led⟩
theorem tx_store {h : Heap} {o : Obj} {es es' : Array (Int × Value)} {ep : Nat} {t t' : SetTable} (ho : h.get? a = some o) (hd : o.data = .set es ep t) : (h.update a (Obj.putSet es' t')).get? a = some { o with data := .set es' (ep + 1) t' } :=
  L2.store_at ho hd
theorem tx_tail {g : Bool → Sem Unit} (free : ∀ (b : Bool) (r : Shared) (Z : Unit → Shared → Prop), Z () r → wpAny (model P w) A (g b) Z E r) {o : Obj} {es es1 : Array (Int × Value)} {ep : Nat} {t t2 : SetTable} {ks : List Str} (ho : s.heap.get? a = some o) (hx : o.ExactSet)
    (hd : o.data = .set es ep t) (T : TxT w es1 t2 ks) {wd : Bool} {Z : Option Bool → Shared → Prop} (hZ : ∀ h', Heap.SameBut a s.heap h' → TxS w h' a ks → Z (some true) { s with heap := h' }) :
    wpAny (model P w) A (storeSet a es1 t2 >>= fun _ => if (!wd && t2.tooFull) = true then g (relayAll t2 es1 (SetTable.grown es1.size)).2.2 >>= fun _ => storeSet a (relayAll t2 es1 (SetTable.grown es1.size)).1 (relayAll t2 es1 (SetTable.grown es1.size)).2.1 >>= fun _ => pure (some true) else pure (some true)) Z E s := by
  refine wpAny_bind (wpAny_storeSet_of ho hd ?_ (fits_of_scanBound T.few))
  have o1 := tx_store (es' := es1) (t' := t2) ho hd
  have b1 := Heap.SameBut.update s.heap a (Obj.putSet es1 t2)
  split
  · have T2 := T.relaid (relayAll_perm t2 es1 (SetTable.grown es1.size)) (relayAll_fits t2 es1 _) (L2.relayAll_ris t2 es1 _) (L2.relayAll_led t2 es1 _)
    revert T2
    generalize relayAll t2 es1 (SetTable.grown es1.size) = z
    intro T2
    refine wpAny_bind (free _ _ _ (wpAny_bind (wpAny_storeSet_of o1 rfl ?_ (fits_of_scanBound T2.few))))
    exact wpAny_pure (hZ _ (b1.trans (Heap.SameBut.update _ a _)) ⟨_, z.1, _, z.2.1, tx_store (es' := z.1) (t' := z.2.1) o1 rfl, hx, rfl, T2⟩)
  · exact wpAny_pure (hZ _ b1 ⟨_, es1, _, t2, o1, hx, rfl, T⟩)
theorem tx_add {ks : List Str} {k : Str} {u : Tok} {Z : Bool → Shared → Prop} (R : TxS w s.heap a ks) (room : ks.length + 1 < scanBound)
    (hZ : ∀ h' b ks', Heap.SameBut a s.heap h' → TxS w h' a ks' → (∀ x, x ∈ ks' ↔ x = k ∨ x ∈ ks) → ks'.length ≤ ks.length + 1 → Z b { s with heap := h' }) : wpAny (model P w) A (setAddHashed a (.str k u) ((PySem.strKind P w).hash k)) Z E s := by
  obtain ⟨o, es, ep, t, ho, hx, hd, T⟩ := R
  have hsc : (Value.str k u).scannable = true := rfl
  unfold setAddHashed setAddHashedIn
  refine wpAny_holding (wpAny_bind (wpAny_setState_of ho hd T.fit ?_))
  show wpAny _ _ (if byScan (.str k u) es = true then _ else _) _ _ _
  rw [if_pos (byScan_of hsc T.few (T.elems (P := P)))]
  unfold setAddByScan
  refine wpAny_bind (wpAny_bind (wpAny_rule (wpAny_bind (wpAny_setScan_of (strKind_is P w k u) ho hd T.fit T.elems ?_))))
  cases hf : es.toList.findIdx? (fun e => (PySem.strKind P w).is k e.2) with
  | some j =>
    obtain ⟨hj, pj, _⟩ := List.findIdx?_eq_some_iff_getElem.mp hf
    have hk : k ∈ ks := T.mem.mem_iff.mp (List.mem_map.mpr ⟨_, List.getElem_mem hj, (tx_is (T.ent _ (List.getElem_mem hj)) k).mp pj⟩)
    refine wpAny_pure (wpAny_pure (hZ s.heap _ ks (Heap.SameBut.refl a s.heap) ⟨o, es, ep, t, ho, hx, hd, T⟩ (fun x => ⟨.inr, fun q => q.elim (fun e => e ▸ hk) id⟩) (Nat.le_succ _)))
  | none =>
    have hk : k ∉ ks := fun q => by
      obtain ⟨e, he, ee⟩ := List.mem_map.mp (T.mem.mem_iff.mpr q)
      have c := List.findIdx?_eq_none_iff.mp hf e he
      rw [(tx_is (T.ent e he) k).mpr ee] at c
      cases c
    have gw : ∀ (b : Bool) {r : Shared} {Y : Unit → Shared → Prop}, Y () r → wpAny (model P w) A (match b with | true => rule "set.scan.the-table-gave-way" | false => pure ()) Y E r := fun b r Y q => by
      cases b
      · exact wpAny_pure q
      · exact wpAny_rule q
    have pm := layNew_perm t es ((PySem.strKind P w).hash k) (.str k u)
    have f1 := layNew_fits t es ((PySem.strKind P w).hash k) (.str k u)
    have r1 := L2.layNew_ris t es ((PySem.strKind P w).hash k) (.str k u) T.ris
    have l1 := L2.layNew_led t es ((PySem.strKind P w).hash k) (.str k u)
    dsimp only
    revert pm f1 r1 l1
    generalize layNew t es ((PySem.strKind P w).hash k) (.str k u) = z
    obtain ⟨es1, t1, wd, gave⟩ := z
    dsimp only
    intro pm f1 r1 l1
    rw [Array.toList_push] at pm
    have pc : es1.toList.Perm (((PySem.strKind P w).hash k, Value.str k u) :: es.toList) := pm.trans (List.perm_append_singleton _ _)
    have n1 : es1.size = es.size + 1 := by
      rw [← Array.length_toList, pc.length_eq, List.length_cons, Array.length_toList]
    have n2 : ks.length = es.size := by
      rw [← T.mem.length_eq, List.length_map, Array.length_toList]
    have mk : ∀ t2 : SetTable, t2.fits es1.size = true → Ris t2.place.toList → t2.led = t1.led → TxT w es1 t2 (k :: ks) := fun t2 q1 q2 q3 =>
      ⟨fun e he => (List.mem_cons.mp (pc.mem_iff.mp he)).elim (fun q => by rw [q]; exact ⟨k, u, rfl, rfl⟩) (T.ent e), (pc.map txOf).trans (T.mem.cons k), List.nodup_cons.mpr ⟨hk, T.nd⟩, by rw [n1, ← n2]; exact room, q1, q2, by rw [q3, l1]; exact T.led⟩
    have fin : ∀ h', Heap.SameBut a s.heap h' → TxS w h' a (k :: ks) → Z true { s with heap := h' } := fun h' sb r => hZ h' true (k :: ks) sb r (fun x => List.mem_cons) (Nat.le_refl _)
    refine wpAny_bind (gw _ ?_)
    split
    · refine wpAny_bind ?_
      rw [hashByValue_scannable 8 hsc]
      refine wpAny_pure (tx_tail (fun b r Y q => gw b q) ho hx hd (mk _ ?_ ?_ ?_) fun h' sb r => wpAny_pure (fin h' sb r))
      · first | (split <;> first | exact f1 | exact SetTable.fits_plain_off f1) | exact f1
      · first | (split <;> exact r1) | exact r1
      · first | (split <;> rfl) | rfl
    · refine wpAny_bind (wpAny_pure ?_)
      simp only [↓reduceIte]
      exact tx_tail (fun b r Y q => gw b q) ho hx hd (mk t1 f1 r1 rfl) fun h' sb r => wpAny_pure (fin h' sb r)
end
/-! ### set(a list of texts), sorted(a set of texts) -/
abbrev newSetO (w : World) : Obj := { cls := .type "set", dict := none, data := .set #[] 0 (.fresh 0 0 (!w.params.followText "set-order")) }
theorem tx_new {w : World} {h : Heap} {a : Addr} (e : h.get? a = some (newSetO w)) : TxS w h a [] := by
  refine ⟨_, #[], 0, _, e, ⟨rfl, rfl, rfl⟩, rfl, fun e he => ?_, .nil, List.nodup_nil, by decide, by rfl, List.Pairwise.nil, ?_⟩
  · simp at he
  · show _ ∨ (!w.params.followText "set-order") = true
    cases w.params.followText "set-order"
    · exact .inr rfl
    · exact .inl rfl
section
variable {P : Program} {w : World} {A : Around} {E : Value → Shared → Prop} {s : Shared}
theorem tx_fill {I S : Addr} {fp wr : List Addr} {G : Array GenState → Array GenState → Prop} {n : Nat} {Pv : Nat → Value → Prop} {St : Nat → Shared → Prop} {Z : Result → Shared → Prop} (W : WalksS P w A.in1 I fp wr G n Pv St) (nS : S ∉ fp) (xs : List Str) (en : n = xs.length) (room : xs.length + 1 < scanBound)
    (txt : ∀ i v, Pv i v → ∃ k u, xs[i]? = some k ∧ v = .str k u) : ∀ (m i : Nat) (s : Shared), n - i = m → i ≤ n → St i s → (∃ ks, TxS w s.heap S ks ∧ (∀ x, x ∈ ks ↔ x ∈ xs.take i) ∧ ks.length ≤ i) →
      (∀ s' ks, Moved (S :: wr) G s s' → TxS w s'.heap S ks → (∀ x, x ∈ ks ↔ x ∈ xs) → ks.length ≤ n → Z (.ok (.ret .none)) s') → codeAny (model P w) A (.builtin "set.update.loop" ⟨[.ref S, .ref I], []⟩) Z s := by
  have nW : S ∉ wr := fun q => nS (W.sub _ q)
  have up : ∀ b ∈ wr, b ∈ S :: wr := fun b q => List.mem_cons_of_mem _ q
  intro m
  induction m with
  | zero =>
    rintro i s hm hi st ⟨ks, R, sub, len⟩ fin
    obtain rfl : i = n := by omega
    rw [List.take_of_length_le (by omega)] at sub
    refine codeAny_builtin PyProof.Rows.F.entry_set_update_loop ?_
    rw [Around.under_plainId PyProof.Rows.F.plain_set_update_loop _]
    show wpAny _ A.in1 (pyNext (.ref I) >>= _) _ _ _
    refine wpAny_bind (W.done s _ _ st fun s' mv => ?_)
    exact wpAny_pure (fin s' ks (mv.mono up) (R.keep fun o e => mv.heap S o nW e) sub len)
  | succ m ih =>
    rintro i s hm hi st ⟨ks, R, sub, len⟩ fin
    have lt : i < n := by omega
    refine codeAny_builtin PyProof.Rows.F.entry_set_update_loop ?_
    rw [Around.under_plainId PyProof.Rows.F.plain_set_update_loop _]
    show wpAny _ A.in1 (pyNext (.ref I) >>= _) _ _ _
    refine wpAny_bind (W.item i s _ _ lt st fun v s' pv st' mv => ?_)
    obtain ⟨k, u, hk, rfl⟩ := txt i v pv
    have R1 : TxS w s'.heap S ks := R.keep fun o e => mv.heap S o nW e
    show wpAny _ A.in1 (holding [Value.str k u] (setAdd S (.str k u)) >>= _) _ _ _
    refine wpAny_bind (wpAny_holding ?_)
    unfold setAdd
    refine wpAny_holding (wpAny_bind ((PySem.strKind P w).pyHash (k := k) (strKind_is _ _ _ _) ?_))
    refine tx_add (s := { s' with toks := s'.toks + 1 }) R1 (by omega) fun h' b ks' sb R2 mem ln => ?_
    refine wpAny_pure ⟨plainId_quiet PyProof.Rows.F.plain_set_update_loop _, ih (i + 1) _ (by omega) lt (W.frame _ s' _ _ st' (Nat.le_succ _) fun c hc o e => ?_) ⟨ks', R2, fun x => ?_, by omega⟩ fun s'' ks'' mv2 R3 sub3 ln3 => ?_⟩
    · rw [sb.2 c (fun q : c = S => nS (q ▸ hc))]
      exact e
    · rw [mem x, List.take_add_one, hk, List.mem_append, sub x]
      exact ⟨fun q => q.elim (fun e => .inr (by rw [e]; exact List.mem_singleton.mpr rfl)) .inl, fun q => q.elim .inr fun e => .inl (List.mem_singleton.mp e)⟩
    · refine fin s'' ks'' (Moved.trans W.gtrans ((mv.mono up).then_heap (Nat.le_succ _) fun c o hc e => ?_) mv2) R3 sub3 ln3
      rw [sb.2 c (fun q : c = S => hc (by rw [q]; exact List.mem_cons_self))]
      exact e
set_option maxHeartbeats 8000000 in
theorem tx_make {l : Addr} {its : Array Value} (xs : List Str) {Z : Value → Shared → Prop} (calm : A.handled = none) (hl : s.heap.IsList l its) (hx : StrsAre its.toList xs) (room : xs.length + 1 < scanBound)
    (hZ : ∀ (h' : Heap) (tk : Nat) (ks : List Str), TxS w h' s.heap.objs.size ks → (∀ x, x ∈ ks ↔ x ∈ xs) → ks.length ≤ xs.length → (∀ b o, s.heap.get? b = some o → h'.get? b = some o) → Z (.ref s.heap.objs.size) { s with heap := h', toks := tk }) :
    wpAny (model P w) A (call (.type "set") [.ref l]) Z E s := by
  have many : its.size = xs.length := by
    have q := StrsAre.len_eq hx
    rw [Array.length_toList] at q
    exact q
  obtain ⟨_, _, m1⟩ := PySem.F.called_set.mro; have m2 := PySem.F.called_set.made; have m3 := PySem.F.called_set.sub
  refine wpAny_call (codeAny_of_tree ?_)
  show wpAny _ _ (callAny (.type "set") ⟨[.ref l], []⟩) _ _ _
  refine wpAny_pure ⟨Code.quiet_builtin _ (by decide +kernel), codeAny_builtin PySem.F.entry_type_call ?_⟩
  rw [Around.under_plain (weight_type_call_type "set" [.ref l] []) rfl]
  have c1 := PySem.F.called_set.notType; have c2 := PySem.F.called_set.canCreate; have c3 := PySem.F.typeCall_set_1 (.ref l)
  repeat (any_goals (first | assumption | wp_step))
  refine codeAny_mono (L2.code_set_led1 (.ref l) (E := E) (Q₁ := fun v r => v = .ref s.heap.objs.size ∧ r = { s with heap := s.heap.push (newSetO w) }) ⟨rfl, rfl⟩) fun res r1 hr => ?_
  match res, hr with
  | .error e, hr => exact hr
  | .ok (.ret v), hr =>
    obtain ⟨rfl, rfl⟩ := hr
    have at0 : (s.heap.push (newSetO w)).get? s.heap.objs.size = some (newSetO w) := Heap.get?_push_size _ rfl
    have ty0 : Shared.TypeIs { s with heap := s.heap.push (newSetO w) } (.ref s.heap.objs.size) "set" := ⟨_, at0, rfl⟩
    have i1 := PySem.F.called_set.init.lookup; have i2 := PySem.F.called_set.init.bind (.ref s.heap.objs.size)
    repeat (any_goals (first | assumption | wp_step))
    refine codeAny_mono (codeAny_call_builtin (R := wants (fun v r => v = .none ∧ ∃ h' tk ks, r = { s with heap := h', toks := tk } ∧ TxS w h' s.heap.objs.size ks ∧ (∀ x, x ∈ ks ↔ x ∈ xs) ∧ ks.length ≤ xs.length ∧ ∀ b o, s.heap.get? b = some o → h'.get? b = some o) E) PySem.F.called_set.init.plain
      PySem.F.entry_set_init (check_set_init_1 ty0 ?_)) fun res2 r2 hr2 => ?_
    · obtain ⟨⟨ocls, od, odt, osl⟩, e0, e1, nn, e2⟩ := hl
      simp only at e1 e2
      subst e1; subst e2
      have lS : l < s.heap.objs.size := Heap.lt_size e0
      have e3 := Heap.get?_push_of_some (newSetO w) e0
      have d1 := PySem.F.sub_list_set; have d2 := PySem.F.sub_list_frozenset; have d3 : (Value.type "list" == Value.type "dict") = false := by decide
      have l1 : (s.heap.push (newSetO w)).IsList l its := ⟨_, e3, rfl, nn, rfl⟩
      unfold Builtin.«set.__init__» noKeywords Builtin.Frozenset.updateFrom
      generalize hPI : pyIter = PI
      wp_walk
      subst hPI
      refine wpAny_pyIter_list l1 (wpAny_bind (wpAny_runValue ?_))
      have z1 : (s.heap.push (newSetO w)).objs.size = s.heap.objs.size + 1 := Heap.size_push ..
      have far : l ≠ (s.heap.push (newSetO w)).objs.size := by
        rw [z1]
        exact Nat.ne_of_lt (Nat.lt_succ_of_lt lS)
      have out : s.heap.objs.size ∉ [(s.heap.push (newSetO w)).objs.size, l] := by
        rw [z1, List.mem_cons, List.mem_singleton]
        exact fun q => q.elim (Nat.ne_of_lt (Nat.lt_succ_self _)) (Nat.ne_of_gt lS)
      refine tx_fill ((Walks.list (show A.in1.in1.in1.handled = none by simp [calm]) _ l far its).toS) out xs many room (fun i v hv => ?_) (its.size - 0) 0 _ rfl (Nat.zero_le _) ⟨⟨_, Heap.get?_push_size _ rfl, rfl, rfl⟩, l1.push _⟩ ⟨[], tx_new (Heap.get?_push_of_some _ at0), fun _ => Iff.rfl, Nat.le_refl _⟩ fun r ks mv R sub ln => ?_
      · have hi : i < xs.length := by
          rw [← many]
          exact (Array.getElem?_eq_some_iff.mp hv).1
        obtain ⟨u, e⟩ := SS.strs_at hx i v (by rw [Array.getElem?_toList]; exact hv)
        exact ⟨xs[i], u, List.getElem?_eq_getElem hi, by rw [e, List.getD_eq_getElem?_getD, List.getElem?_eq_getElem hi]; rfl⟩
      · obtain ⟨h', g', d', tk', os'⟩ := r
        obtain rfl : g' = s.gens := mv.gens
        obtain rfl : d' = s.drawn := mv.drawn
        obtain rfl : os' = s.os := mv.os
        show wpAny _ _ _ _ _ _
        refine wpAny_pure ?_
        show wpAny _ _ (ret Value.none) _ _ _
        refine wpAny_pure ⟨rfl, h', tk', ks, rfl, R, sub, by omega, fun b o e => ?_⟩
        have b0 : b < s.heap.objs.size := Heap.lt_size e
        refine mv.heap b o ?_ (Heap.get?_push_of_some _ (Heap.get?_push_of_some _ e))
        rw [List.mem_cons, List.mem_singleton, z1]
        exact fun q => q.elim (Nat.ne_of_lt b0) (Nat.ne_of_lt (Nat.lt_succ_of_lt b0))
    · match res2, hr2 with
      | .error e, hr2 => exact hr2
      | .ok (.ret v), hr2 =>
        obtain ⟨rfl, h', tk, ks, rfl, R, sub, ln, kp⟩ := hr2
        repeat (any_goals (first | assumption | wp_step))
        exact hZ _ _ _ R sub ln kp
theorem strs_of : ∀ l : List Value, (∀ v ∈ l, ∃ k u, v = Value.str k u) → ∃ xs, StrsAre l xs ∧ xs.length = l.length ∧ ∀ x ∈ xs, ∃ u, Value.str x u ∈ l
  | [], _ => ⟨[], .nil, rfl, fun _ h => absurd h List.not_mem_nil⟩
  | v :: l, h => by
    obtain ⟨k, u, rfl⟩ := h v List.mem_cons_self
    obtain ⟨xs, h1, h2, h3⟩ := strs_of l fun r hr => h r (List.mem_cons_of_mem _ hr)
    refine ⟨k :: xs, .cons k u h1, by rw [List.length_cons, List.length_cons, h2], fun x hx => ?_⟩
    rcases List.mem_cons.mp hx with rfl | hx
    · exact ⟨u, List.mem_cons_self⟩
    · obtain ⟨r, hr⟩ := h3 x hx
      exact ⟨r, List.mem_cons_of_mem _ hr⟩
end
section
variable {P : Program} {w : World} {A : Around} {E : Value → Shared → Prop} {s : Shared}
theorem strs_tx : ∀ {l : List Value}, (∀ v ∈ l, ∃ k u, v = Value.str k u) → StrsAre l (l.map txV)
  | [], _ => .nil
  | v :: l, h => by
    obtain ⟨k, u, rfl⟩ := h v List.mem_cons_self
    exact .cons k u (strs_tx fun x hx => h x (List.mem_cons_of_mem _ hx))
theorem tx_sorted {a : Addr} {ks : List Str} {Z : Value → Shared → Prop} (R : TxS w s.heap a ks) (calm : A.handled = none)
    (hZ : ∀ s' p (out : Array Value) (c : Nat) (ys : List Str), (∀ b o, s.heap.get? b = some o → s'.heap.get? b = some o) → s'.gens = s.gens → s'.os = s.os → s.heap.objs.size ≤ p → s'.heap.get? p = some (seqObj "list" out c) → StrsAre out.toList ys → ys.Perm ks → sortedS ys = true → Z (.ref p) s') :
    wpAny (model P w) A (call (.builtin "sorted") [.ref a]) Z E s := by
  obtain ⟨o, es, ep, t, ho, hx, hd, T⟩ := R
  refine Calls.call_function_entry kind_sorted plain_sorted entry_sorted (args_sorted1 _) ?_
  unfold Builtin.«sorted»
  refine wpAny_bind (m := checkCount "sorted" 1 1 _) (wpAny_pure (wpAny_bind (L2.collect_set (A := A.in1) calm ⟨o, ho, hx.1, hd⟩ T.fit T.few T.ris T.led fun s1 vs k1 z1 g1 o1 pm => ?_)))
  have hS : StrsAre vs (vs.map txV) := strs_tx fun v hv => by
    obtain ⟨e, he, rfl⟩ := List.mem_map.mp (pm.mem_iff.mp hv)
    obtain ⟨k, u, q, _⟩ := T.ent e he
    exact ⟨k, u, q⟩
  have p1 : (vs.map txV).Perm (es.toList.map txOf) := by
    have q := pm.map txV
    rw [List.map_map] at q
    exact q
  have len : vs.length ≤ sizeLine := by
    rw [pm.length_eq, List.length_map, Array.length_toList]
    exact fits_of_scanBound T.few
  refine wpAny_bind (wpAny_newList ?_ len)
  have at1 : (s1.heap.push (seqObj "list" vs.toArray 0)).get? s1.heap.objs.size = some (seqObj "list" vs.toArray 0) := Heap.get?_push_size _ rfl
  refine wpAny_bind (wpAny_holding (wpAny_call_entry slot_list_sort ⟨_, at1, rfl⟩ entry_list_sort (list_sort_treeKAny strKind_oneLt at1 hS.keysOf (fun v1 v2 rest e => keyKind_strs (by rw [← e]; exact hS)) len fun st' a1 a2 => ⟨_, rfl, ?_⟩) (args_list_sort _)))
  obtain ⟨ys, y1, y2, y3⟩ := sorted_out_str hS a1 a2
  obtain ⟨c, hc⟩ := sortedHeap_at (vs := vs) (out := (arrOf st').map (·.2)) at1
  refine wpAny_pure ⟨_, rfl, hZ _ s1.heap.objs.size _ c ys (fun b u e => ?_) g1 o1 z1 hc y1 (y2.trans (p1.trans T.mem)) y3⟩
  have q := k1 b u e
  have lt := Heap.lt_size q
  show (sortedHeap (s1.heap.push (seqObj "list" vs.toArray 0)) s1.heap.objs.size (vs) ((arrOf st').map (·.2))).get? b = some u
  rw [sortedHeap_old (Nat.ne_of_lt lt) (by rw [size_push']; exact Nat.lt_succ_of_lt lt)]
  exact Heap.get?_push_of_some _ q
end
/-! ### as rules -/
def TxO (w : World) (a : Addr) (ks : List Str) : HO := .ext fun h => TxS w h a ks
section
variable {X : Cx}
theorem txO_new {w : World} {P : Program} {H : Hp} {h : Heap} {a : Addr} {ks : List Str} (R : TxS w h a ks) : ObjOk P w H h a (TxO w a ks) := by
  have ⟨o, _, _, _, ho, _⟩ := R
  exact ⟨R, ⟨o, ho⟩, fun _ _ p k => p.keep k⟩
/-- set(a list of texts) -/
def rSetTx (w : World) (K : PySem.W.Frag) : List V → Hp → VK → Prop := fun xs H Q => ∃ (a : Addr) (ys : List Str), xs = [.ref a] ∧ SqL K H a (ys.map V.str) ∧ ys.length < 4000 ∧ ∀ (p : Addr) (ks : List Str), H p = none → ks.Nodup → (∀ x, x ∈ ks ↔ x ∈ ys) → ks.length ≤ ys.length → Q (.ref p) (upd H p (TxO w p ks))
theorem cr_setTx (calm : X.calm = true) : CallR X (.type "set") (rSetTx X.w X.K) := by
  intro pins s σ H xs us Q I r h
  obtain ⟨a, ys, rfl, hs, hl, q⟩ := h
  obtain ⟨its, rv, at1, _⟩ := I.list hs
  rw [Vals.ref1 r]
  refine tx_make ys (I.ok.hd calm) at1.isList (by rw [List.toList_toArray]; exact rv.strs) (by show ys.length + 1 < 4096; omega) fun h' tk ks R sub ln kp => ?_
  have hn : H s.heap.objs.size = none := I.hok.fresh (Nat.le_refl _)
  exact ⟨.ref s.heap.objs.size, _, I.laid (t' := tk) kp (Nat.le_refl _) (txO_new R), rfl, q _ ks hn (let ⟨_, _, _, _, _, _, _, T⟩ := R; T.nd) sub ln⟩
/-- sorted(a set of texts) -/
def rSortTx (w : World) : List V → Hp → VK → Prop := fun xs H Q => ∃ (a : Addr) (ks : List Str), xs = [.ref a] ∧ H a = some (TxO w a ks) ∧ ∀ (p : Addr) (ys : List Str), H p = none → ys.Perm ks → sortedS ys = true → Q (.ref p) (upd H p (.lst (ys.map V.str)))
theorem cr_sortTx (calm : X.calm = true) : CallR X (.builtin "sorted") (rSortTx X.w) := by
  intro pins s σ H xs us Q I r h
  obtain ⟨a, ks, rfl, ha, q⟩ := h
  have R : TxS X.w s.heap a ks := (I.hok a _ ha).1
  have few : ks.length < 4096 := by
    obtain ⟨_, es, _, _, _, _, _, T⟩ := R
    rw [← T.mem.length_eq, List.length_map, Array.length_toList]
    exact T.few
  rw [Vals.ref1 r]
  refine tx_sorted R (I.ok.hd calm) fun s' p out c ys k g o hp hg hy pm up => ?_
  have hn : H p = none := I.hok.fresh hp
  have hlen : (ys.map V.str).length ≤ sizeLine := by
    rw [List.length_map, pm.length_eq, sizeLine_eq]
    omega
  have J : Inv X pins σ (upd H p (.lst (ys.map V.str))) { s with heap := s'.heap, gens := s'.gens, drawn := s'.drawn, toks := s'.toks } :=
    I.call (ch := []) (Un.laid k hp hn) (I.hok.laid k hp ⟨hlen, out.toList, c, vals_of_strs hy, hg⟩) (by rw [g]; exact I.bare) (fun _ z => nomatch z)
  have e : s' = { s with heap := s'.heap, gens := s'.gens, drawn := s'.drawn, toks := s'.toks } := by
    obtain ⟨_, _, _, _, _⟩ := s'
    cases o
    rfl
  rw [e]
  exact ⟨.ref p, _, J, rfl, q p ys hn pm up⟩
end
/-! ### o.m(a, ..), m a staticmethod of the object's class; o.m(k = v) -/
structure SMeth (K : PySem.W.Frag) (C : Addr) (m : Str) (p g : Addr) : Prop where
  at_ : PySem.W.findIn K (.ref C) m = some (some (.ref p))
  ty : PySem.W.typeIn K (.ref p) = some (.type "staticmethod")
  get : PySem.W.specialIn K (.ref p) "__get__" = some (some (.builtin "staticmethod.__get__"))
  tk : PySem.W.takesIn K (.ref p) = some false
  cp : PySem.W.copiedNames.contains m = false
  rc : ∃ rest, PySem.W.recIn K p "staticmethod" = some (.ref g :: rest)
  kp : PySem.W.keepIn K (.ref g) = true
def tStat (C : Addr) (m : Str) (sp : Sp) (ta : TE) (t : TA) : TE := fun σ H Q => ta σ H fun x H1 => ∃ a dx fs, x = .ref a ∧ H1 a = some (.ins C dx fs) ∧ fs.lookup m = none ∧ t σ H1 fun ws H2 => sp ws H2 Q E0
def tMethK (C : Addr) (m : Str) (sp : Sp) (gV : List V → List V → List V) (ta : TE) (tk : TA) : TE := fun σ H Q => ta σ H fun x H1 => ∃ a dx fs, x = .ref a ∧ H1 a = some (.ins C dx fs) ∧ fs.lookup m = none ∧ tk σ H1 fun zs H2 => sp (gV [.ref a] zs) H2 Q E0
section
variable {X : Cx} {k : Nat} {C p g f : Addr} {sp : Sp} {o e : Expr} {es : List Expr} {kws : List Keyword} {m : Str} {pos apos : Pos} {ta : TE} {t tk : TA} {fd : FuncData} {ps ks : List Str}
theorem pe_stat {pl : Sem Bool} (he : PE X o ta) (c : Cls X.K C) (k1 : SMeth X.K C m p g) (F : FnOk X.prog X.w X.K X.mg X.base CX0 k g fd ps sp) (hr : Room k X.A) (hb : Binds X.K fd ps []) (ha : PA X (e :: es) t)
    (hst : starEach (e :: es) X.env = (false, eval e X.env) :: starEach es X.env := by rfl) (hpl : (backTo pos (starEach es X.env)).any (·.1) = false := by rfl)
    (ht : eval (.Call (.Attribute o m apos) (e :: es) [] pos) X.env = (eval o X.env >>= fun ov => standAt apos.atName >>= fun _ => holding [ov] (getMethod ov m pl) >>= fun q => callWith pos q.1 q.2 (backTo pos (starEach (e :: es) X.env)) (backToKw pos (keywordEach [] X.env))) := by rfl) :
    PE X (.Call (.Attribute o m apos) (e :: es) [] pos) (tStat C m sp ta t) := by
  refine ⟨fun pins s σ H Q I h => ?_⟩
  refine PySem.W.methodCall_KW (pl := pl) (thn (he.run pins s σ H _ I h) fun u s1 ⟨x, H1, I1, rx, a, dx, fs, ex, ea, l, q⟩ => ?_) ht
  subst ex
  obtain rfl : u = Value.ref a := rx
  obtain ⟨mA, O, rr, _, _, _⟩ := ins_get I1.hok ea
  have hn : mA m = none := RelO.none_of (by rw [← l]; exact rr m)
  obtain ⟨od, J, hl⟩ := O.look
  obtain ⟨rest, hrec⟩ := k1.rc
  have hc : PySem.W.isClsIn X.K C = true := by
    obtain ⟨cd, hc, _⟩ := PySem.W.any_some c.hd
    show (PySem.W.clsIn X.K C).isSome = true
    rw [hc]
    rfl
  have pg := PySem.W.plainGet_of (c.get m)
  refine PySem.W.method_usual (r := some (.ref p)) I1.kIn J pg.1 pg.2 k1.at_ ?_ ?_
  · show ((PySem.W.typeIn X.K (.ref p)).any fun t => t != .type "function" && t != .type "method_descriptor" && t != .type "wrapper_descriptor") = true
    rw [k1.ty]
    first | rfl | decide +kernel
  refine PySem.W.get_bind I1.kIn J pg.1 (ClX.find_cm hc k1.at_ k1.get k1.tk k1.cp (by rw [hl m, hn])) pg.2 (wpAny_call (PySem.W.sm_get (s := { s1 with toks := s1.toks + 1 }) I1.kIn hrec (PySem.W.handed_on (by rfl) ?_)))
  have I2 := I1.tok (s1.toks + 1)
  refine PySem.W.callWith_K (first := []) (h₀ := X.base) I2.ok.mod.kin k1.kp (thn (ha.run pos pins _ σ H1 _ I2 q) fun us s2 ⟨vs, H2, I3, r, q2⟩ => ⟨I3.kIn, ?_⟩) hst hpl
  exact run_fn F hr hb .nil pass0 I3 r (by rw [List.append_nil]; exact q2)
theorem pe_methK {pl : Sem Bool} {h : List Value → List Value → List Value} {hV : List V → List V → List V} (he : PE X o ta) (c : Cls X.K C) (hm : Meth X.K C m f) (F : FnOk X.prog X.w X.K X.mg X.base CX0 k f fd ps sp) (hr : Room k X.A) (hb : KBinds X.K fd ps ks h hV) (hkw : PK X kws tk)
    (hall : (backToKw pos (keywordEach kws X.env)).all (·.1.isSome) = true := by rfl) (hks : (backToKw pos (keywordEach kws X.env)).filterMap (·.1) = ks := by rfl) (hpl : ((backTo pos (starEach [] X.env)).any (·.1) || (backToKw pos (keywordEach kws X.env)).any (·.1.isNone)) = false := by rfl)
    (ht : eval (.Call (.Attribute o m apos) [] kws pos) X.env = (eval o X.env >>= fun ov => standAt apos.atName >>= fun _ => holding [ov] (getMethod ov m pl) >>= fun q => callWith pos q.1 q.2 (backTo pos (starEach [] X.env)) (backToKw pos (keywordEach kws X.env))) := by rfl) :
    PE X (.Call (.Attribute o m apos) [] kws pos) (tMethK C m sp hV ta tk) := by
  refine ⟨fun pins s σ H Q I h => ?_⟩
  refine PySem.W.methodCall_KW (pl := pl) (thn (he.run pins s σ H _ I h) fun u s1 ⟨x, H1, I1, rx, a, dx, fs, ex, ea, l, q⟩ => ?_) ht
  subst ex
  obtain rfl : u = Value.ref a := rx
  refine getmeth_ok I1 ea c hm l (PySem.W.callWith_KW0 (first := [.ref a]) (h₀ := X.base) I1.ok.mod.kin hm.kp hall (thn (hkw.run pos pins s1 σ H1 _ I1 q) fun ws s2 ⟨zs, H2, I2, rz, q2⟩ => ⟨I2.kIn, ?_⟩) hpl)
  rw [hks]
  exact run_fnk (us := [.ref a]) (vs := [.ref a]) F hr hb pass0 I2 (.cons rfl .nil) rz q2
end
/-- one value by position, one by keyword -/
def two1 {α : Type} : List α → List α → List α
  | [a], [b] => [a, b]
  | _, _ => []
theorem kb2 {K : PySem.W.Frag} {fd : FuncData} {p1 p2 : Str} (h : ∀ (s : Shared) (a b : Value), K.In s.heap → BindsTo s fd ⟨[a], [(p2, b)]⟩ [(p1, a), (p2, b)]) : KBinds K fd [p1, p2] [p2] two1 two1 := by
  refine ⟨fun s us ws X len => ?_, fun r1 r2 => ?_⟩
  · match us, ws, len with
    | [a], [b], _ => exact h s a b X
  · cases r1 with
    | nil => exact .nil
    | cons q1 r1 =>
      cases r1 with
      | cons _ _ => exact .nil
      | nil =>
        cases r2 with
        | nil => exact .nil
        | cons q2 r2 =>
          cases r2 with
          | cons _ _ => exact .nil
          | nil => exact .cons q1 (.cons q2 .nil)
/-! ### a list by the keys of a dict -/
theorem upd_free {H : Hp} {a e : Addr} {o : HO} (h : upd H a o e = none) : e ≠ a ∧ H e = none := by
  have n : e ≠ a := fun q => by
    rw [q, upd_same] at h
    cases h
  rw [upd_ne n] at h
  exact ⟨n, h⟩
theorem keys_strs {kvs : List (Key × V)} {xs : List Str} (h : kvs.map (·.1) = xs.map Sum.inr) : (kvs.map fun kv => kV kv.1) = xs.map V.str := by
  have e : (kvs.map fun kv => kV kv.1) = (kvs.map (·.1)).map kV := by rw [List.map_map]; rfl
  rw [e, h, List.map_map]
  rfl
theorem lock_keys {σ : L2.St} {H : Hp} {Q : VK} {td te : TE} {i : Nat} {d : Addr} {kvs : List (Key × V)} {xs : List Str} {f : Str → Str} (hd : H d = some (.dK kvs)) (hk : kvs.map (·.1) = xs.map Sum.inr) (hl : xs.length ≤ 900)
    (htd : ∀ (H' : Hp) (Q' : VK), Q' (.ref d) H' → td σ H' Q') (hte : ∀ x ∈ xs, ∀ (H' : Hp) (Q' : VK), Q' (.str (f x)) H' → te ((wipe σ [i]).set i (some (.str x))) H' Q')
    (q : ∀ (D : Addr) (H' : Hp), H D = none → Same H H' → H' D = some (.lst (xs.map fun x => .str (f x))) → Q (.ref D) H') : tLockE (tLc (iKeys td) (gName i) tYes te [i]) σ H Q := by
  refine ⟨d, .dK kvs, hd, trivial, fun od => ?_⟩
  refine htd _ _ ⟨d, od, rfl, .inl ⟨kvs, upd_same, fun D nD => ?_⟩⟩
  have hlen : kvs.length = xs.length := by
    have := congrArg List.length hk
    rw [List.length_map, List.length_map] at this
    exact this
  obtain ⟨nDd, nDH⟩ := upd_free nD
  refine lc_it walk_keys (fun j H' => H' D = some (.lst ((xs.take j).map fun x => .str (f x))) ∧ H' d = some (.frz od (.dK kvs)) ∧ ∀ b o, b ≠ d → H b = some o → H' b = some o) ⟨by rw [upd_same]; rfl, by rw [upd_ne nDd.symm, upd_same], fun b o nb e => by rw [upd_ne (ne_of_none e nDH), upd_ne nb]; exact e⟩ (fun _ _ _ h => h.2.1) ?_ ?_
  · rintro j v H1 H2 hj ⟨hD, hd1, keep⟩ ⟨rfl, k, v', hkv, rfl⟩
    obtain ⟨x, hx, rfl⟩ := key_at hk hkv
    refine ⟨?_, yes_if ?_⟩
    · show ((wipe σ [i]).set i (some (kV (.inr x)))).set i none = σ.set i none
      show ((σ.set i none).set i (some (V.str x))).set i none = σ.set i none
      rw [List.set_set, List.set_set]
    refine hte x (List.mem_of_getElem? hx) _ _ ⟨_, hD, big_lt (by rw [List.length_map, List.length_take]; omega), ?_, ?_, ?_⟩
    · rw [upd_same, List.take_add_one, hx, List.map_append]
      rfl
    · rw [upd_ne nDd.symm]
      exact hd1
    · intro b o nb e
      rw [upd_ne (ne_of_none e nDH)]
      exact keep b o nb e
  · rintro H1 ⟨hD, hd1, keep⟩
    refine ⟨hd1, q D _ nDH (fun b o e => ?_) ?_⟩
    · by_cases hb : b = d
      · rw [hb, upd_same, ← hd, ← hb, e]
      · rw [upd_ne hb]
        exact keep b o hb e
    · rw [upd_ne nDd, hD, List.take_of_length_le (by omega)]
theorem paired_app {α β : Type} {R : α → β → Prop} : ∀ {l1 l2 : List α} {k1 k2 : List β}, Paired R l1 k1 → Paired R l2 k2 → Paired R (l1 ++ l2) (k1 ++ k2)
  | _, _, _, _, .nil, h => h
  | _, _, _, _, .cons a t, h => .cons a (paired_app t h)
/-! ### comprehensions whose elements write nothing but new tuples -/
theorem prd_snoc {α β : Type} {R : α → β → Prop} : ∀ {as : List α} {bs : List β} {a : α} {b : β}, Paired R as bs → R a b → Paired R (as ++ [a]) (bs ++ [b])
  | _, _, _, _, .nil, h => .cons h .nil
  | _, _, _, _, .cons h t, h' => .cons h (prd_snoc t h')
theorem prd_len {α β : Type} {R : α → β → Prop} : ∀ {as : List α} {bs : List β}, Paired R as bs → as.length = bs.length
  | _, _, .nil => rfl
  | _, _, .cons _ t => by rw [List.length_cons, List.length_cons, prd_len t]
theorem filt_snoc {α : Type} {zs : List α} {i : Nat} {x : α} (b : α → Bool) (h : zs[i]? = some x) : (zs.take (i + 1)).filter b = (zs.take i).filter b ++ (if b x = true then [x] else []) := by
  rw [List.take_add_one, h, List.filter_append]
  congr 1
  show [x].filter b = _
  cases e : b x with
  | true => rw [List.filter_cons_of_pos e, List.filter_nil, if_pos rfl]
  | false => rw [List.filter_cons_of_neg (by rw [e]; decide), List.filter_nil, if_neg (by decide)]
theorem take_few {α : Type} (zs : List α) (b : α → Bool) (i : Nat) : ((zs.take i).filter b).length ≤ zs.length := Nat.le_trans (List.length_filter_le _ _) (by rw [List.length_take]; exact Nat.min_le_right _ _)
section
variable {J : It} {n : Nat} {G : Hp → Prop} {Y : Nat → Hp → V → Hp → Prop} {g : TG} {tt : TT} {te tk tv : TE} {vs : List Nat} {σ : L2.St} {H1 : Hp} {D : Addr} {Qd : Hp → Prop} {α : Type}
theorem lc_tups (w : Walk J n G Y) (zs : List α) (val : α → V) (st : α → L2.St) (b : α → Bool) (f1 f2 : α → V) (hn : zs.length = n) (nD : H1 D = none) (few : n ≤ 60000) (hG : ∀ H', Same H1 H' → G H')
    (hY : ∀ i H v H', Y i H v H' → H' = H ∧ ∃ x, zs[i]? = some x ∧ v = val x) (hg : ∀ x ∈ zs, ∀ H' (Q' : L2.St → Hp → Prop), Same H1 H' → Q' (st x) H' → g (val x) (wipe σ vs) H' Q')
    (hw : ∀ x ∈ zs, wipe (st x) vs = wipe σ vs) (ht : ∀ x ∈ zs, ∀ H' (Q' : Bool → Hp → Prop), Same H1 H' → Q' (b x) H' → tt (st x) H' Q')
    (he : ∀ x ∈ zs, b x = true → ∀ H' (Q' : VK), Same H1 H' → (∀ T, H' T = none → Q' (.ref T) (upd H' T (.tup [f1 x, f2 x]))) → te (st x) H' Q')
    (q : ∀ H' ts, Same H1 H' → H' D = some (.lst (ts.map V.ref)) → Paired (fun t x => H' t = some (.tup [f1 x, f2 x]) ∧ H1 t = none ∧ t ≠ D) ts (zs.filter b) → Qd H') :
    ∃ W : Nat → Nat → Hp → Prop, (∃ m, W 0 m (upd H1 D (.lst []))) ∧ ∀ i m H, W i m H →
      (J.stop i H ∧ Qd H) ∨ (J.go i H ∧ ∃ Nx : Hp → Prop, (∀ H', Nx H' → ∃ m', m' < m ∧ W (i + 1) m' H') ∧ ∀ x H', J.yld i H x H' → g x (wipe σ vs) H' fun σ2 H2 => wipe σ2 vs = wipe σ vs ∧ tt σ2 H2 fun b H3 =>
        if b = true then te σ2 H3 fun y H4 => ∃ acc, H4 D = some (.lst acc) ∧ acc.length < sizeLine ∧ Nx (upd H4 D (.lst (acc ++ [y]))) else Nx H3) := by
  refine lc_it w (fun i H => ∃ ts, Same H1 H ∧ H D = some (.lst (ts.map V.ref)) ∧ Paired (fun t x => H t = some (.tup [f1 x, f2 x]) ∧ H1 t = none ∧ t ≠ D) ts ((zs.take i).filter b)) ⟨[], same_upd nD, upd_same, .nil⟩ (fun i H _ h => by obtain ⟨_, h, _⟩ := h; exact hG H h) ?_ ?_
  · rintro i v H H' hi ⟨ts, s1, hD, hp⟩ hy
    obtain ⟨rfl, x, hx, rfl⟩ := hY _ _ _ _ hy
    have hxm := List.mem_of_getElem? hx
    refine hg x hxm _ _ s1 ⟨hw x hxm, ht x hxm _ _ s1 ?_⟩
    have fs := filt_snoc b hx
    cases eb : b x with
    | false =>
      rw [eb, if_neg (by decide), List.append_nil] at fs
      rw [if_neg (by decide)]
      exact ⟨ts, s1, hD, by rw [fs]; exact hp⟩
    | true =>
      rw [eb, if_pos rfl] at fs
      rw [if_pos rfl]
      refine he x hxm eb _ _ s1 fun T nT => ?_
      have nTD : T ≠ D := (ne_of_none hD nT).symm
      have tl : ts.length ≤ zs.length := by rw [prd_len hp]; exact take_few zs b i
      refine ⟨_, by rw [upd_ne nTD.symm]; exact hD, by rw [List.length_map]; exact Nat.lt_of_le_of_lt (show _ ≤ 60000 by omega) (by decide), ts ++ [T], fun c o e => ?_, by rw [upd_same, List.map_append]; rfl, ?_⟩
      · rw [upd_ne (ne_of_none e nD), upd_ne (ne_of_none (s1 _ _ e) nT)]
        exact s1 _ _ e
      · rw [fs]
        refine prd_snoc (hp.mono fun t y h => ⟨?_, h.2⟩) ⟨by rw [upd_ne nTD, upd_same], s1.free nT, nTD⟩
        rw [upd_ne h.2.2, upd_ne (ne_of_none h.1 nT)]
        exact h.1
  · rintro H' ⟨ts, s1, hD, hp⟩
    rw [← hn, List.take_length] at hp
    exact q H' ts s1 hD hp
theorem lc_vals (w : Walk J n G Y) (zs : List α) (val : α → V) (st : α → L2.St) (b : α → Bool) (f : α → V) (hn : zs.length = n) (nD : H1 D = none) (few : n ≤ 60000) (hG : ∀ H', Same H1 H' → G H')
    (hY : ∀ i H v H', Y i H v H' → H' = H ∧ ∃ x, zs[i]? = some x ∧ v = val x) (hg : ∀ x ∈ zs, ∀ H' (Q' : L2.St → Hp → Prop), Same H1 H' → Q' (st x) H' → g (val x) (wipe σ vs) H' Q')
    (hw : ∀ x ∈ zs, wipe (st x) vs = wipe σ vs) (ht : ∀ x ∈ zs, ∀ H' (Q' : Bool → Hp → Prop), Same H1 H' → Q' (b x) H' → tt (st x) H' Q')
    (he : ∀ x ∈ zs, b x = true → ∀ H' (Q' : VK), Same H1 H' → Q' (f x) H' → te (st x) H' Q')
    (q : ∀ H', Same H1 H' → H' D = some (.lst ((zs.filter b).map f)) → Qd H') :
    ∃ W : Nat → Nat → Hp → Prop, (∃ m, W 0 m (upd H1 D (.lst []))) ∧ ∀ i m H, W i m H →
      (J.stop i H ∧ Qd H) ∨ (J.go i H ∧ ∃ Nx : Hp → Prop, (∀ H', Nx H' → ∃ m', m' < m ∧ W (i + 1) m' H') ∧ ∀ x H', J.yld i H x H' → g x (wipe σ vs) H' fun σ2 H2 => wipe σ2 vs = wipe σ vs ∧ tt σ2 H2 fun b H3 =>
        if b = true then te σ2 H3 fun y H4 => ∃ acc, H4 D = some (.lst acc) ∧ acc.length < sizeLine ∧ Nx (upd H4 D (.lst (acc ++ [y]))) else Nx H3) := by
  refine lc_it w (fun i H => Same H1 H ∧ H D = some (.lst (((zs.take i).filter b).map f))) ⟨same_upd nD, upd_same⟩ (fun i H _ h => hG H h.1) ?_ ?_
  · rintro i v H H' hi ⟨s1, hD⟩ hy
    obtain ⟨rfl, x, hx, rfl⟩ := hY _ _ _ _ hy
    have hxm := List.mem_of_getElem? hx
    refine hg x hxm _ _ s1 ⟨hw x hxm, ht x hxm _ _ s1 ?_⟩
    have fs := filt_snoc b hx
    cases eb : b x with
    | false =>
      rw [eb, if_neg (by decide), List.append_nil] at fs
      rw [if_neg (by decide)]
      exact ⟨s1, by rw [fs]; exact hD⟩
    | true =>
      rw [eb, if_pos rfl] at fs
      rw [if_pos rfl]
      refine he x hxm eb _ _ s1 ⟨_, hD, by rw [List.length_map]; have := take_few zs b i; exact Nat.lt_of_le_of_lt (show _ ≤ 60000 by omega) (by decide), fun c o e => ?_, by rw [upd_same, fs, List.map_append]; rfl⟩
      rw [upd_ne (ne_of_none e nD)]
      exact s1 _ _ e
  · rintro H' ⟨s1, hD⟩
    rw [← hn, List.take_length] at hD
    exact q H' s1 hD
theorem dc_vals (w : Walk J n G Y) (zs : List Str) (val : Str → V) (st : Str → L2.St) (b : Str → Bool) (f : Str → V) (hn : zs.length = n) (nd : zs.Nodup) (nD : H1 D = none) (few : n ≤ 60000) (hG : ∀ H', Same H1 H' → G H')
    (hY : ∀ i H v H', Y i H v H' → H' = H ∧ ∃ x, zs[i]? = some x ∧ v = val x) (hg : ∀ x ∈ zs, ∀ H' (Q' : L2.St → Hp → Prop), Same H1 H' → Q' (st x) H' → g (val x) (wipe σ vs) H' Q')
    (hw : ∀ x ∈ zs, wipe (st x) vs = wipe σ vs) (ht : ∀ x ∈ zs, ∀ H' (Q' : Bool → Hp → Prop), Same H1 H' → Q' (b x) H' → tt (st x) H' Q')
    (hk : ∀ x ∈ zs, b x = true → ∀ H' (Q' : VK), Same H1 H' → Q' (.str x) H' → tk (st x) H' Q') (he : ∀ x ∈ zs, b x = true → ∀ H' (Q' : VK), Same H1 H' → Q' (f x) H' → tv (st x) H' Q')
    (q : ∀ H', Same H1 H' → H' D = some (.dK ((zs.filter b).map fun x => (.inr x, f x))) → Qd H') :
    ∃ W : Nat → Nat → Hp → Prop, (∃ m, W 0 m (upd H1 D (.dK []))) ∧ ∀ i m H, W i m H → (J.stop i H ∧ Qd H) ∨ (J.go i H ∧ ∃ Nx : Hp → Prop, (∀ H', Nx H' → ∃ m', m' < m ∧ W (i + 1) m' H') ∧
      ∀ x H', J.yld i H x H' → g x (wipe σ vs) H' fun σ2 H2 => wipe σ2 vs = wipe σ vs ∧ tt σ2 H2 fun b H3 =>
        if b = true then tk σ2 H3 fun y H4 => tv σ2 H4 fun z H5 => ∃ kvs k, y = kV k ∧ H5 D = some (.dK kvs) ∧ kvs.length < sizeLine ∧ Nx (upd H5 D (.dK (putK kvs k z))) else Nx H3) := by
  refine dc_it w (fun i H => Same H1 H ∧ H D = some (.dK (((zs.take i).filter b).map fun x => (.inr x, f x)))) ⟨same_upd nD, upd_same⟩ (fun i H _ h => hG H h.1) ?_ ?_
  · rintro i v H H' hi ⟨s1, hD⟩ hy
    obtain ⟨rfl, x, hx, rfl⟩ := hY _ _ _ _ hy
    have hxm := List.mem_of_getElem? hx
    refine hg x hxm _ _ s1 ⟨hw x hxm, ht x hxm _ _ s1 ?_⟩
    have fs := filt_snoc b hx
    cases eb : b x with
    | false =>
      rw [eb, if_neg (by decide), List.append_nil] at fs
      rw [if_neg (by decide)]
      exact ⟨s1, by rw [fs]; exact hD⟩
    | true =>
      rw [eb, if_pos rfl] at fs
      rw [if_pos rfl]
      refine hk x hxm eb _ _ s1 (he x hxm eb _ _ s1 ⟨_, .inr x, rfl, hD, by rw [List.length_map]; have := take_few zs b i; exact Nat.lt_of_le_of_lt (show _ ≤ 60000 by omega) (by decide), fun c o e => ?_, ?_⟩)
      · rw [upd_ne (ne_of_none e nD)]
        exact s1 _ _ e
      · rw [upd_same, fs, List.map_append, putK_end]
        · rfl
        · rw [List.map_map]
          intro hm
          obtain ⟨y, hy1, hy2⟩ := List.mem_map.mp hm
          have e : y = x := Sum.inr.inj hy2
          subst e
          have hy3 := (List.mem_filter.mp hy1).1
          obtain ⟨j, hj, ej⟩ := List.mem_take_iff_getElem.mp hy3
          have h1 : zs[j]? = some y := by rw [← ej]; exact List.getElem?_eq_getElem _
          have := (List.getElem?_inj (List.getElem?_eq_some_iff.mp h1).1 nd).mp (h1.trans hx.symm)
          omega
  · rintro H' ⟨s1, hD⟩
    rw [← hn, List.take_length] at hD
    exact q H' s1 hD
end
def rDictP (K : PySem.W.Frag) : List V → Hp → VK → Prop := fun xs H Q => ∃ (a : Addr) (ps : List Addr) (kvs : List (Key × V)), xs = [.ref a] ∧ SqL K H a (ps.map V.ref) ∧ Paired (fun p kv => SqT K H p [kV kv.1, kv.2]) ps kvs ∧ ∀ p, H p = none → Q (.ref p) (upd H p (.dK (mergeK [] kvs)))
theorem call_dictPn {X : Cx} (h : X.calm = true) : CallR X (.type "dict") (rDictP X.K) := call_dictP h
def top (i : Nat) : Stmt := PySem.Challenge.pw_keptroutes_k01_errors.main.body.getD i (.Pass ⟨0, 0, 0, 0⟩)
abbrev sPen : Stmt := top 21
abbrev sP : Stmt := sPen
abbrev sNext : Stmt := top 22
abbrev sN : Stmt := sNext
abbrev sDraw : Stmt := top 23
abbrev sDr : Stmt := sDraw
/-! ### {**d, k: v} -/
section
variable {P : Program} {w : World} {K' : Type} [DecidableEq K'] {knd : KeyKind P w K'} {A : Around} {E : Value → Shared → Prop} {s : Shared}
theorem put_ok {d : Addr} {kvs : List (K' × Value)} {k : K'} {key v : Value} {Z : Unit → Shared → Prop} (ik : knd.is k key = true) (D : s.heap.DictOf knd d kvs) (few : kvs.length ≤ sizeLine)
    (hZ : ∀ h1, h1.DictOf knd d (stored kvs k v) → Heap.SameBut d s.heap h1 → Z () { s with heap := h1 }) : wpAny (model P w) A (dictPut d (knd.hash k) key v) Z E s := by
  obtain ⟨o, es, ep, at1, cl, da, ke, pr, nd⟩ := D
  have n1 : es.size ≤ sizeLine := by
    have q := pr.length
    rw [Array.length_toList] at q
    omega
  have fi : (es.findIdx? fun e => knd.is k e.key) = kvs.findIdx? fun x => decide (x.1 = k) := by
    rw [← pr.findIdx k]
    cases es
    simp
  unfold dictPut
  refine wpAny_bind (wpAny_dictFind_of ik at1 da ke ?_)
  cases q : es.findIdx? fun e => knd.is k e.key with
  | some j =>
    have st : stored kvs k v = _ := if_pos (any_of_findIdx_some (fi ▸ q))
    refine wpAny_updateDict at1 da (hZ _ ⟨_, _, ep, Heap.get?_update_self _ at1 (Obj.isFreed_of_dict (Obj.data_mapDict da _)), cl.mapDict _, Obj.data_mapDict da _, ke.modify _ _, ?_, ?_⟩ (Heap.SameBut.update ..))
    · rw [st]
      have ql : (es.toList.findIdx? fun e => knd.is k e.key) = some j := by
        rw [← q]
        cases es
        simp
      have z := pr.modify nd ql v
      cases es
      simpa using z
    · rw [st, keys_map_store]
      exact nd
  | none =>
    have no : k ∉ kvs.map (·.1) := not_mem_of_findIdx_none (fi ▸ q)
    have st : stored kvs k v = _ := if_neg (c := (kvs.any fun x => decide (x.1 = k)) = true) (by
      rintro z
      obtain ⟨x, hx, e⟩ := List.any_eq_true.mp z
      exact no (List.mem_map.mpr ⟨x, hx, of_decide_eq_true e⟩))
    refine wpAny_updateDictKeys (hz := n1) at1 da (hZ _ ⟨_, _, ep + 1, Heap.get?_update_self _ at1 (Obj.isFreed_of_dict (Obj.data_mapDictKeys da _)), cl.mapDictKeys _, Obj.data_mapDictKeys da _, ke.push ik _, ?_, ?_⟩ (Heap.SameBut.update ..))
    · rw [st]
      have z := pr.append ik (knd.hash k) v
      cases es
      simpa using z
    · rw [st, List.map_append, List.nodup_append]
      refine ⟨nd, by simp, fun a ha b hb => ?_⟩
      obtain rfl : b = k := by simpa using hb
      exact fun e => no (e ▸ ha)
theorem if_pre {α β γ : Type} {c : Prop} [Decidable c] {x : Sem α} {F : α → Sem β} {rest : Sem γ} {Z : γ → Shared → Prop} (hp : c → ∀ Q : β → Shared → Prop, (∀ b, Q b s) → wpAny (model P w) A (x >>= F) Q E s) (hr : wpAny (model P w) A rest Z E s) :
    wpAny (model P w) A (if c then x >>= fun a => F a >>= fun _ => rest else rest) Z E s := by
  split
  · rename_i hc
    have e : (x >>= fun a => F a >>= fun _ => rest) = (x >>= F) >>= fun _ => rest := by rw [bind_assoc]
    rw [e]
    exact wpAny_bind (hp hc _ fun _ => hr)
  · exact hr
theorem forIn_none {l : List DictEntry} {f : DictEntry → PUnit → Sem (ForInStep PUnit)} (hf : ∀ e ∈ l, ∀ u, f e u = pure (.yield u)) : forIn l PUnit.unit f = pure PUnit.unit := by
  induction l with
  | nil => rfl
  | cons e r ih => rw [List.forIn_cons, hf e List.mem_cons_self, pure_bind]; exact ih fun x hx => hf x (List.mem_cons_of_mem _ hx)
/-- a dict merged into another -/
theorem merge_ok {d o : Addr} {kvs more : List (K' × Value)} {Z : Unit → Shared → Prop} (ne : d ≠ o) (sy : (o == sysModules) = false) (D : s.heap.DictOf knd d kvs) (O : s.heap.DictOf knd o more) (few : kvs.length + more.length ≤ sizeLine)
    (nr : ∀ k v, knd.is k v = true → ∀ a, v ≠ .ref a)
    (hZ : ∀ h1, h1.DictOf knd d (merged kvs more) → Heap.SameBut d s.heap h1 → Z () { s with heap := h1 }) : wpAny (model P w) A (mergeMapping d (.ref o) false) Z E s := by
  obtain ⟨oo, es, ep, at1, cl, da, ke, pr, nd⟩ := id O
  obtain ⟨od, es2, ep2, at2, cl2, da2, ke2, pr2, nd2⟩ := id D
  have hlen : more.length = es.size := by
    rw [← pr.length, Array.length_toList]
  unfold mergeMapping
  refine wpAny_bind (wpAny_isInstance O.typeIs isSubtype_dict_dict ?_)
  rw [if_pos rfl]
  refine wpAny_bind (wpAny_specialOf O.typeIs PySem.F.slot_dict_iter.lookup ?_)
  refine wpAny_bind (wpAny_pure ?_)
  simp only [beq_self_eq_true]
  rw [if_neg (by rw [sy]; exact Bool.false_ne_true)]
  refine wpAny_bind (wpAny_dictEntries at2 da2 ?_)
  refine if_pre (fun _ Q q => ?_) ?_
  · refine wpAny_bind (wpAny_dictEntries at1 da ?_)
    rw [← Array.forIn_toList, forIn_none fun e he u => ?_]
    · exact wpAny_pure (q _)
    · obtain ⟨k', ik, _⟩ := ke e (by simpa using he)
      split
      · rename_i a ha
        exact absurd ha (nr _ _ ik a)
      · rfl
  refine wpAny_bind (wpAny_dictEntries at1 da (wpAny_bind (wpAny_dictEpoch at1 da (wpAny_bind ?_))))
  refine wpAny_forIn_list _ (fun rest _ r => ∃ h1 i, r = { s with heap := h1 } ∧ rest = List.range' i (es.size - i) ∧ i ≤ es.size ∧ h1.DictOf knd d (merged kvs (more.take i)) ∧ h1.get? o = some oo ∧ Heap.SameBut d s.heap h1) _ ?_ ?_ _ _ ⟨s.heap, 0, rfl, by rw [List.range_eq_range', Nat.sub_zero], Nat.zero_le _, by simpa [merged] using D, at1, Heap.SameBut.refl _ _⟩
  · rintro x rest u r ⟨h1, i, rfl, er, hi, D1, a1, sb⟩
    have lt : i < es.size := by
      rcases Nat.lt_or_ge i es.size with q | q
      · exact q
      · rw [Nat.sub_eq_zero_of_le q] at er
        cases er
    obtain ⟨rfl, er2⟩ : x = i ∧ rest = List.range' (i + 1) (es.size - (i + 1)) := by
      rw [show es.size - i = (es.size - (i + 1)) + 1 by omega, List.range'_succ] at er
      exact List.cons.inj er
    refine wpAny_bind (wpAny_dictEntries a1 da ?_)
    rw [Array.getElem?_eq_getElem lt]
    have lt2 : x < more.length := by rw [hlen]; exact lt
    obtain ⟨⟨k0, v0⟩, hkv⟩ : ∃ y, more[x]? = some y := ⟨_, List.getElem?_eq_getElem lt2⟩
    obtain ⟨ik, iv⟩ := pr.get? (e := es[x]) (by simp [lt]) hkv
    obtain ⟨k', ik2, hh⟩ := ke es[x] (Array.getElem_mem lt)
    obtain rfl : k' = k0 := knd.inj _ _ _ ik2 ik
    show wpAny _ _ (holding [es[x].key, es[x].val] (if false = true then _ else dictPut d es[x].hash es[x].key es[x].val) >>= _) _ _ _
    rw [if_neg Bool.false_ne_true, hh, iv]
    have few2 : (merged kvs (more.take x)).length ≤ sizeLine := by
      have e1 := merged_length_le kvs (more.take x)
      rw [List.length_take] at e1
      omega
    refine wpAny_bind (wpAny_holding (put_ok ik D1 few2 fun h2 D2 sb2 => ?_))
    have a2 : h2.get? o = some oo := (sb2.2 o (Ne.symm ne)).trans a1
    refine wpAny_bind (wpAny_dictEpoch a2 da ?_)
    rw [if_neg (by simp)]
    exact wpAny_pure ⟨h2, x + 1, rfl, er2, lt, by rw [merged_take_succ kvs more x (k', v0) hkv]; exact D2, a2, sb.trans sb2⟩
  · rintro u r ⟨h1, i, rfl, er, hi, D1, a1, sb⟩
    obtain rfl : i = es.size := by
      rcases Nat.lt_or_ge i es.size with q | q
      · rw [show es.size - i = (es.size - (i + 1)) + 1 by omega, List.range'_succ] at er
        cases er
      · omega
    rw [← hlen, List.take_length] at D1
    exact wpAny_pure (hZ h1 D1 sb)
end
section
variable {X : Cx} {o ke ve : Expr} {pos : Pos} {td tk tv : TE}
theorem key_noref {P : Program} {w : World} {k : Key} {v : Value} (h : (mixKind P w).is k v = true) (a : Addr) : v ≠ .ref a := by
  rcases keyIs_shape h with ⟨i, t, rfl, rfl⟩ | ⟨x, t, rfl, rfl⟩
  · exact fun e => nomatch e
  · exact fun e => nomatch e
/-- a dict of the heap merged into another -/
theorem mergeH {pins : List (Addr × Obj)} {σ : L2.St} {H : Hp} {s : Shared} {A : Around} {E : Value → Shared → Prop} {p a : Addr} {kvs more : List (Key × V)} {Z : Unit → Shared → Prop} (I : Inv X pins σ H s) (hp : H p = some (.dK kvs)) (ha : Rd H a (.dK more)) (ne : p ≠ a) (few : kvs.length + more.length ≤ 2000)
    (hZ : ∀ s', Inv X pins σ (upd H p (.dK (mergeK kvs more))) s' → Z () s') : wpAny (model X.prog X.w) A (mergeMapping p (.ref a) false) Z E s := by
  obtain ⟨z1, sy1, vs, rel, D⟩ := dk_of I.hok hp
  obtain ⟨z2, sy2, rs, rel2, O⟩ := dk_rd I.hok ha
  refine merge_ok ne sy2 D O (by rw [← rel.length, ← rel2.length]; exact Nat.le_trans few (by decide)) (fun k v h a => key_noref h a) fun h1 D1 sb => hZ _ ?_
  have he : ∃ q, h1.get? p = some q := let ⟨q, _, _, hq, _⟩ := D1; ⟨q, hq⟩
  have len := length_mergeK more kvs
  exact d_write (t' := s.toks) I (by rw [hp]; exact True.intro) sb he (dk_new (Nat.le_trans (show (mergeK kvs more).length ≤ 2000 by omega) (by decide)) sy1 (KV.merge rel2 rel) D1)
def tDSt (td tk tv : TE) : TE := fun σ H Q => ∀ p, H p = none → td σ (upd H p (.dK [])) fun x H1 => ∃ (a : Addr) (kvs : List (Key × V)), x = .ref a ∧ Rd H1 a (.dK kvs) ∧ a ≠ p ∧ H1 p = some (.dK []) ∧ (kvs.map (·.1)).Nodup ∧ kvs.length < 1000 ∧ ∀ q, (upd H1 p (.dK kvs)) q = none →
  tk σ (upd (upd H1 p (.dK kvs)) q (.dK [])) fun y H2 => tv σ H2 fun z H3 => ∃ k, y = kV k ∧ H3 p = some (.dK kvs) ∧ H3 q = some (.dK []) ∧ Q (.ref p) (upd (upd H3 q (.dK [(k, z)])) p (.dK (putK kvs k z)))
theorem pe_dst (ho : PE X o td) (hk : PE X ke tk) (hv : PE X ve tv) : PE X (.Dict [none, some ke] [o, ve] pos) (tDSt td tk tv) := by
  refine ⟨fun pins s σ H Q I h => ?_⟩
  rw [arm_eval_Dict]
  refine wpAny_bind (wpAny_standAt ?_)
  show wpAny _ _ (dictDisplay [(none, (eval o X.env >>= fun x => standAt pos >>= fun _ => pure x)), (some (eval ke X.env), (eval ve X.env >>= fun x => standAt pos >>= fun _ => pure x))]) _ _ _
  unfold dictDisplay
  simp only [List.forIn_cons, List.forIn_nil, List.isEmpty_nil, if_true, pure_bind, bind_assoc, List.nil_append, List.length_cons, List.length_nil, Nat.zero_add, Nat.reduceBEq, Bool.false_eq_true, if_false, List.isEmpty_cons]
  refine wpAny_bind (wpAny_alloc ?_)
  have hn : H s.heap.objs.size = none := I.hok.fresh (Nat.le_refl _)
  have I1 := I.laid (a := s.heap.objs.size) (o := .dK []) (h' := s.heap.push { cls := .type "dict", data := .dict #[] }) (t' := s.toks) (fun _ _ q => Heap.get?_push_of_some _ q) (Nat.le_refl _) (dk_empty s.heap I.big)
  refine wpAny_bind (wpAny_holding (wpAny_bind (thn (ho.run pins _ σ _ _ I1 (h _ hn)) fun u s2 ⟨x, H1, I2, rx, a, kvs, ex, ha, nap, hp, nd, few, q⟩ => wpAny_bind (wpAny_standAt (wpAny_pure ?_)))))
  subst ex
  obtain rfl : u = Value.ref a := rx
  refine wpAny_bind (wpAny_onRaise (wpAny_tryCatch (wpAny_onRaise (wpAny_holding (mergeH I2 hp ha nap.symm (by show 0 + kvs.length ≤ 2000; omega) fun s3 I3 => ?_)))))
  rw [mergeK_nd kvs [] (by rw [List.nil_append]; exact nd), List.nil_append] at I3
  have nq : (upd H1 s.heap.objs.size (.dK kvs)) s3.heap.objs.size = none := I3.hok.fresh (Nat.le_refl _)
  have npq : s.heap.objs.size ≠ s3.heap.objs.size := ne_of_none upd_same nq
  have I4 := I3.laid (a := s3.heap.objs.size) (o := .dK []) (h' := s3.heap.push { cls := .type "dict", data := .dict #[] }) (t' := s3.toks) (fun _ _ q => Heap.get?_push_of_some _ q) (Nat.le_refl _) (dk_empty s3.heap I3.big)
  refine wpAny_bind (wpAny_holding (wpAny_subDict (knd := mixKind X.prog X.w) (show 1 ≤ 15 by decide) (evalPairs_cons (thn (hk.run pins _ σ _ _ I4 (q _ nq)) fun ku s4 ⟨y, H2, I5, ry, q2⟩ => wpAny_bind (thn (hv.run pins _ σ H2 _ I5 q2) fun vu s5 ⟨z, H3, I6, rz, k, ey, hp3, hq3, q3⟩ => wpAny_bind (wpAny_standAt (wpAny_pure (evalPairs_nil ?_))))))))
  subst ey
  obtain ⟨zq, syq, vs, rel, D⟩ := dk_of I6.hok hq3
  obtain rfl : vs = [] := List.length_eq_zero_iff.mp (by rw [← rel.length]; rfl)
  refine ⟨[(k, vu)], ⟨kV_is ry, rfl, trivial⟩, D, fun h6 D6 sb6 => ?_⟩
  have he : ∃ q, h6.get? s3.heap.objs.size = some q := let ⟨q, _, _, hq, _⟩ := D6; ⟨q, hq⟩
  have I7 := d_write (t' := s5.toks + [(ku, vu)].length) (ob := .dK [(k, z)]) I6 (by rw [hq3]; exact True.intro) sb6 he (dk_new (by show 1 ≤ sizeLine; decide) syq (show KV (putK [] k z) (stored [] k vu) from rel.put k rz) D6)
  exact wpAny_bind (wpAny_onRaise (wpAny_holding (mergeH I7 (by rw [upd_ne npq]; exact hp3) (.inl upd_same) npq (by show kvs.length + 1 ≤ 2000; omega) fun s8 I8 => wpAny_pure ⟨.ref s.heap.objs.size, _, I8, rfl, q3⟩)))
end
section
variable {P : Program} {w : World} {K : PySem.W.Frag} {mg : Str → Option Value} {base : Heap}
theorem scPen : FnScope ["script"] ["script"] (defScope sPen) := ⟨rfl, rfl, rfl, by decide +kernel, rfl, by decide +kernel, by decide +kernel⟩
theorem ok_pen {f : Addr} {fd : FuncData} {k : Nat} (F : Fun K "_law_pen" "_law_pen" sPen f fd) (ml : mg "list" = none) : FnOk P w K mg base CX0 (k + 1) f fd ["script"] (spPen K) := by
  refine F.ok scPen (fun vs H Q E h => ?_) (fun cdv A outer s H vs Q E hr h => ?_)
  · obtain ⟨a, ns, rfl, _⟩ := h
    rfl
  · obtain ⟨a, ns, rfl, hS, hlen, q⟩ := h
    refine ⟨_, pss_one (ps_ret (pe_lst (pa_cons (pe_callTy call_list_of (by rfl) ml (by decide +kernel) (pa_cons (pe_slice sl_list (pv 0) po_none (po_some pe_int)) pa_nil)) (pa_cons pe_int (pa_cons pe_int pa_nil))))), ?_⟩
    obtain ⟨ms, em, hm⟩ := cut60 ns
    refine ⟨.ref a, rfl, 60, rfl, a, ns.map V.int, rfl, hS, fun b nb => ?_⟩
    rw [em]
    refine ⟨b, _, rfl, .inl (.inl (.inl upd_same)), fun c nc => ?_⟩
    refine ⟨by show 3 ≤ sizeLine; decide, fun p np => ?_⟩
    have s1 : Same H (upd H b (.lst (ms.map V.int))) := same_upd nb
    have s2 := same_upd (o := .lst (ms.map V.int)) nc
    have s3 := same_upd (o := penL c 0 0 []) np
    have nf : H p = none := (s1.trans s2).free np
    refine q _ p c (s1.trans (s2.trans s3)) nf (s1.free nc) ⟨ms, 0, 0, upd_same, ?_, hm, Int.le_refl _, Int.le_refl _, Int.le_refl _⟩
    exact s3 _ _ upd_same
theorem scNext : FnScope ["pen", "index", "cell", "low", "mid", "top"] ["pen"] (defScope sNext) := ⟨rfl, rfl, rfl, by decide +kernel, rfl, by decide +kernel, by decide +kernel⟩
theorem ok_next {f : Addr} {fd : FuncData} {k : Nat} (F : Fun K "_law_next" "_law_next" sNext f fd) (ml : mg "len" = none) : FnOk P w K mg base CX0 (k + 1) f fd ["pen"] spNext := by
  refine F.ok scNext (fun vs H Q E h => ?_) (fun cdv A outer s H vs Q E hr h => ?_)
  · obtain ⟨p, n, m, c, ns, i, z, rfl, _⟩ := h
    rfl
  · obtain ⟨p, n, m, c, ns, i, z, rfl, hp, hn, q⟩ := h
    have nd := scNext.nd
    have hu := hr.units
    refine ⟨_, pss_cons (ps_set (i := 1) nd rfl (.inl rfl) (pe_ix ix_list (pv 0) pe_int (fun _ _ => rfl)))
      (pss_cons (ps_asg (pe_op op_add (pv 1) pe_int) (pg_sub (pv 0) pe_int set_list))
      (pss_cons (ps_set (i := 2) nd rfl (.inl rfl) (pe_op op_add (pe_op op_mul (pv 1) pe_int) pe_int))
      (C8.pss_cut (ps_if (pt_cmpR (op_neD hu) (pe_ix ix_list (pv 0) pe_int (fun _ _ => rfl)) (pe_lst pa_nil) (nomark _))
        (pss_one (ps_set (i := 2) nd rfl (.inl rfl) (pe_ix ix_list (pe_ix ix_list (pv 0) pe_int (fun _ _ => rfl))
          (pe_op op_mod (pv 1) (pe_callB call_len_seq (by rfl) ml PySem.boot_len (pa_cons (pe_ix ix_list (pv 0) pe_int (fun _ _ => rfl)) pa_nil))) (fun _ _ => rfl)))) pss_nil)
      (C8.pss_cut (ps_if (PW.pt (pw_and (pt_cmpR op_lt (pv 1) (pe_callB call_len_seq (by rfl) ml PySem.boot_len (pa_cons (pe_ix ix_list (pv 0) pe_int (fun _ _ => rfl)) pa_nil)) (nomark _))
          (pw_and1 (pt_cmpR op_ge (pv 2) (pe_op op_pow pe_int pe_int) (nomark _)))))
        (pss_one (ps_ret (pv 2))) pss_nil)
      (C8.pss_cut (ps_set (i := 3) nd rfl (.inl rfl) (pe_op op_mod (pe_op op_add (pe_op op_add (pe_op op_mod (pv 2) pe_int) (pe_op op_mul (pv 1) pe_int)) pe_int) pe_int))
      (C8.pss_cut (ps_set (i := 4) nd rfl (.inl rfl) (pe_op op_mod (pe_op op_add (pe_op op_add (pe_op op_mul (pv 3) (pv 3)) (pe_op op_mul (pv 1) pe_int)) pe_int) pe_int))
      (C8.pss_cut (ps_set (i := 5) nd rfl (.inl rfl) (pe_op op_mod (pe_op op_add (pe_op op_add (pe_op op_mul (pv 4) (pv 4)) (pv 3)) (pe_op op_mul (pe_op op_mul (pv 1) (pv 1)) pe_int)) pe_int))
      (pss_one (ps_ret (pe_op op_add (pe_op op_mul (pe_op op_add (pe_op op_mul (pv 5) pe_int) (pv 4)) pe_int) (pv 3)))))))))))  , ?_⟩
    have hpL : H p = some (.lst (.ref c :: .int i :: .int z :: m)) := hp.at_
    have ncp : c ≠ p := hp.ne
    -- index = pen[1]; pen[1] = index + 1
    refine ⟨.ref p, rfl, p, _, 1, .int i, rfl, rfl, SqL.of hpL, atI_nat (j := 1) rfl, ?_⟩
    refine ⟨.int i, rfl, i, 1, rfl, rfl, .ref p, rfl, p, _, 1, 1, rfl, rfl, hpL, ix1, ?_⟩
    have e1 : (V.ref c :: .int i :: .int z :: m).set 1 (.int (i + 1)) = .ref c :: .int (i + 1) :: .int z :: m := rfl
    rw [e1]
    generalize hH : upd H p (.lst (.ref c :: .int (i + 1) :: .int z :: m)) = H1
    have h1 : H1 p = some (.lst (.ref c :: .int (i + 1) :: .int z :: m)) := by rw [← hH, upd_same]
    have hc1 : H1 c = some (.lst (ns.map V.int)) := by rw [← hH, upd_ne ncp]; exact hp.cells
    have b1 : But p H H1 := by rw [← hH]; exact But.upd
    -- cell = index * 1049 + 29
    refine ⟨.int i, rfl, _, _, rfl, rfl, .inr ⟨by decide, by decide⟩, _, _, rfl, rfl, ?_⟩
    have hi0 := hp.i0
    have hi1 := hp.i1
    have hnB : n ≤ 1000000000000 := hn
    -- pen[0] != []
    refine ⟨fun σ H2 => ∃ cell : Int, σ = [some (.ref p), some (.int i), some (.int cell), none, none, none] ∧ H2 p = some (.lst (.ref c :: .int (i + 1) :: .int z :: m)) ∧ H2 c = some (.lst (ns.map V.int)) ∧ But p H H2, ?_, ?_⟩
    · refine ⟨.ref p, rfl, p, _, 0, .ref c, rfl, rfl, SqL.of h1, atI_nat (j := 0) rfl, Nat.zero_le _, fun e ne => ?_⟩
      have s2 : Same H1 (upd H1 e (.lst [])) := same_upd ne
      have hp2 : (upd H1 e (.lst [])) p = some (.lst (.ref c :: .int (i + 1) :: .int z :: m)) := s2 _ _ h1
      have hc2 : (upd H1 e (.lst [])) c = some (.lst (ns.map V.int)) := s2 _ _ hc1
      have b2 : But p H (upd H1 e (.lst [])) := b1.trans (.of_same s2)
      refine ⟨.list (ns.map PyData.int), .list [], .lst (SqL.of hc2) (dpAll_ints ns), .lst (SqL.of upd_same) .nil, PySem.W.ke_shaped_ints ns, rfl, _, rfl, ?_⟩
      rw [eqv_nil]
      by_cases hz : ns = []
      · rw [decide_eq_true hz]
        refine iteF ?_
        exact ⟨_, rfl, hp2, hc2, b2⟩
      · rw [decide_eq_false hz]
        refine iteT ?_
        have hl : 0 < ns.length := List.length_pos_iff.mpr hz
        have hlt : (i % (ns.length : Int)).toNat < ns.length := by
          have h1 := Int.emod_nonneg i (show (ns.length : Int) ≠ 0 by omega)
          have h2 := Int.emod_lt_of_pos i (show (0 : Int) < ns.length by omega)
          omega
        have hnn := Int.emod_nonneg i (show (ns.length : Int) ≠ 0 by omega)
        have g : atI (ns.map V.int) (i % (((ns.map V.int).length : Nat) : Int)) = some (.int ns[(i % (ns.length : Int)).toNat]) := by
          rw [List.length_map]
          refine at_of (j := (i % (ns.length : Int)).toNat) (by omega) ?_
          rw [List.getElem?_map, List.getElem?_eq_getElem hlt]
          rfl
        refine ⟨.ref p, rfl, p, _, 0, .ref c, rfl, rfl, SqL.of hp2, atI_nat (j := 0) rfl, .int i, rfl, .ref p, rfl, p, _, 0, .ref c, rfl, rfl, SqL.of hp2, atI_nat (j := 0) rfl,
          c, _, rfl, .inl (SqL.of hc2), _, _, rfl, rfl, by rw [List.length_map]; omega, c, _, _, _, rfl, rfl, SqL.of hc2, g, ?_⟩
        exact ⟨_, rfl, hp2, hc2, b2⟩
    · rintro σ H2 ⟨cell, rfl, hp2, hc2, b2⟩
      have fin : ∀ x : Int, 0 ≤ x → Q (.int x) H2 := fun x hx => q x H2 hx b2 (hp.but b2 hp2 (by omega) (by omega) hp.s0)
      have m1 := Int.emod_nonneg (cell % 2147483587 + i * 70061 + 53) (show (2147483587 : Int) ≠ 0 by decide)
      have m2 := Int.emod_lt_of_pos (cell % 2147483587 + i * 70061 + 53) (show (0 : Int) < 2147483587 by decide)
      have M0 : (2147483587 : Int) ≠ 0 := by decide
      have M1 : (0 : Int) < 2147483587 := by decide
      have M2 : (0 : Int) < 2147483563 := by decide
      have M3 : (0 : Int) < 2147483549 := by decide
      refine ⟨fun σ' H' => σ' = [some (.ref p), some (.int i), some (.int cell), none, none, none] ∧ H' = H2, ?_, ?_⟩
      · refine ⟨.int i, rfl, .ref p, rfl, p, _, 0, .ref c, rfl, rfl, SqL.of hp2, atI_nat (j := 0) rfl, c, _, rfl, .inl (SqL.of hc2), _, _, rfl, rfl, _, rfl, ?_⟩
        refine ite2 (fun _ => ?_) (fun _ => iteF ⟨rfl, rfl⟩)
        refine ⟨.int cell, rfl, _, _, rfl, rfl, ⟨by decide, by decide, by decide⟩, _, _, rfl, rfl, _, rfl, ?_⟩
        refine ite2 (fun hc => ?_) (fun _ => ⟨rfl, rfl⟩)
        have hc' : (10 : Int) ^ 18 ≤ cell := of_decide_eq_true hc
        exact ⟨.int cell, rfl, fin cell (by omega)⟩
      · rintro σ' H' ⟨rfl, rfl⟩
        refine ⟨fun σ' Ha => Ha = H' ∧ ∃ low : Int, 0 ≤ low ∧ low < 2147483587 ∧ σ' = [some (.ref p), some (.int i), some (.int cell), some (.int low), none, none], ?_, ?_⟩
        · refine ⟨.int cell, rfl, _, _, rfl, rfl, M1, .int i, rfl, _, _, rfl, rfl, .inr ⟨by decide, by decide⟩, _, _, rfl, rfl, _, _, rfl, rfl, _, _, rfl, rfl, M1, ?_⟩
          exact ⟨rfl, _, Int.emod_nonneg _ M0, Int.emod_lt_of_pos _ M1, rfl⟩
        rintro σ' Hb ⟨rfl, low, l1, l2, rfl⟩
        refine ⟨fun σ' Ha => Ha = Hb ∧ ∃ mid : Int, 0 ≤ mid ∧ mid < 2147483563 ∧ σ' = [some (.ref p), some (.int i), some (.int cell), some (.int low), some (.int mid), none], ?_, ?_⟩
        · refine ⟨.int low, rfl, .int low, rfl, _, _, rfl, rfl, .inl ⟨by omega, by omega⟩, .int i, rfl, _, _, rfl, rfl, .inr ⟨by decide, by decide⟩, _, _, rfl, rfl, _, _, rfl, rfl, _, _, rfl, rfl, M2, ?_⟩
          exact ⟨rfl, _, Int.emod_nonneg _ (by decide), Int.emod_lt_of_pos _ M2, rfl⟩
        rintro σ' Hc ⟨rfl, mid, d1, d2, rfl⟩
        refine ⟨fun σ' Ha => Ha = Hc ∧ ∃ tp : Int, 0 ≤ tp ∧ σ' = [some (.ref p), some (.int i), some (.int cell), some (.int low), some (.int mid), some (.int tp)], ?_, ?_⟩
        · refine ⟨.int mid, rfl, .int mid, rfl, _, _, rfl, rfl, .inl ⟨by omega, by omega⟩, .int low, rfl, _, _, rfl, rfl, .int i, rfl, .int i, rfl, _, _, rfl, rfl, .inl ⟨by omega, by omega⟩, _, _, rfl, rfl, .inr ⟨by decide, by decide⟩, _, _, rfl, rfl, _, _, rfl, rfl, M3, ?_⟩
          exact ⟨rfl, _, Int.emod_nonneg _ (by decide), rfl⟩
        rintro σ' H3 ⟨rfl, tp, t1, rfl⟩
        refine ⟨.int tp, rfl, _, _, rfl, rfl, .inr ⟨by decide, by decide⟩, .int mid, rfl, _, _, rfl, rfl, _, _, rfl, rfl, .inr ⟨by decide, by decide⟩, .int low, rfl, _, _, rfl, rfl, ?_⟩
        exact fin _ (by show 0 ≤ (tp * 2147483587 + mid) * 2147483563 + low; omega)
theorem scDraw : FnScope ["pen", "below", "digit"] ["pen", "below"] (defScope sDraw) := ⟨rfl, rfl, rfl, by decide +kernel, rfl, by decide +kernel, by decide +kernel⟩
theorem ok_draw {f fN : Addr} {fd fdN : FuncData} {k : Nat} (F : Fun K "_law_draw" "_law_draw" sDraw f fd) (FN : Fun K "_law_next" "_law_next" sNext fN fdN) (bN : Binds K fdN ["pen"] []) (gN : mg "_law_next" = some (.ref fN)) (ml : mg "len" = none) :
    FnOk P w K mg base CX0 (k + 2) f fd ["pen", "below"] spDraw := by
  have GN : FnOk P w K mg base CX0 (k + 1) fN fdN ["pen"] spNext := ok_next FN ml
  refine F.ok scDraw (fun vs H Q E h => ?_) (fun cdv A outer s H vs Q E hr h => ?_)
  · obtain ⟨p, c, n, m, below, rfl, _⟩ := h
    rfl
  · obtain ⟨p, c, n, m, below, rfl, ⟨ns, i, z, hp⟩, hn, hb0, hb1, q⟩ := h
    have nd := scDraw.nd
    refine ⟨_, C8.pss_cut (ps_if (pt_cmpR op_lt (pe_ix ix_list (pv 0) pe_int (fun _ _ => rfl)) (pv 1) (nomark _))
        (pss_one (ps_asg (pe_call GN hr (by rfl) gN FN.kp bN .nil pass0 (pa_cons (pv 0) pa_nil)) (pg_sub (pv 0) pe_int set_list))) pss_nil)
      (pss_cons (ps_set (i := 2) nd rfl (.inl rfl) (pe_op op_mod (pe_ix ix_list (pv 0) pe_int (fun _ _ => rfl)) (pv 1)))
      (pss_cons (ps_asg (pe_op op_fdiv (pe_ix ix_list (pv 0) pe_int (fun _ _ => rfl)) (pv 1)) (pg_sub (pv 0) pe_int set_list))
      (pss_one (ps_ret (pv 2))))), ?_⟩
    refine ⟨fun σ H2 => σ = [some (.ref p), some (.int below), none] ∧ But p H H2 ∧ ∃ i z, PenAt H2 p (n + 1) m c ns i z, ?_, ?_⟩
    · refine ⟨.ref p, rfl, p, _, 2, .int z, rfl, rfl, SqL.of hp.at_, atI_nat (j := 2) rfl, .int below, rfl, _, _, rfl, rfl, _, rfl, ?_⟩
      refine ite2 (fun _ => ?_) (fun _ => ⟨rfl, .refl _ _, i, z, hp.mono (Nat.le_succ _)⟩)
      refine ⟨.ref p, rfl, p, n, m, c, ns, i, z, rfl, hp, hn, fun x H1 hx b1 hp1 => ?_⟩
      refine ⟨.ref p, rfl, p, _, 2, 2, rfl, rfl, hp1.at_, ix2, ?_⟩
      exact ⟨rfl, b1.trans .upd, i + 1, x, hp1.next hp1.i0 hp1.i1 hx⟩
    · rintro σ H2 ⟨rfl, b2, i', z', hp2⟩
      refine ⟨.ref p, rfl, p, _, 2, .int z', rfl, rfl, SqL.of hp2.at_, atI_nat (j := 2) rfl, .int below, rfl, _, _, rfl, rfl, hb0, ?_⟩
      refine ⟨.ref p, rfl, p, _, 2, .int z', rfl, rfl, SqL.of hp2.at_, atI_nat (j := 2) rfl, .int below, rfl, _, _, rfl, rfl, ⟨hb0, hb1⟩, .ref p, rfl, p, _, 2, 2, rfl, rfl, hp2.at_, ix2, ?_⟩
      refine ⟨_, rfl, q _ _ (Int.emod_nonneg _ (by omega)) (Int.emod_lt_of_pos _ hb0) (b2.trans .upd) ⟨ns, i', z' / below, hp2.next hp2.i0 hp2.i1 (Int.ediv_nonneg hp2.s0 (by omega))⟩⟩
end
/-! ### a caught exception that a name keeps after the except clause -/
/-- a caught exception of the class cls, with the dict d, at a -/
def ExK (cls : Value) (d : Option Addr) (a : Addr) : HO := .ext fun h => ∃ (oe : Obj) (vs : Array Value), h.get? a = some oe ∧ Zc cls d oe ∧ oe.data = .fields vs
theorem exK_ok {P : Program} {w : World} {H : Hp} {h : Heap} {a : Addr} {cls : Value} {d : Option Addr} {oe : Obj} {vs : Array Value} (e : h.get? a = some oe) (z : Zc cls d oe) (q : oe.data = .fields vs) : ObjOk P w H h a (ExK cls d a) :=
  ⟨⟨oe, vs, e, z, q⟩, ⟨oe, e⟩, fun _ _ ⟨o, v, q, r⟩ k => ⟨o, v, k o q, r⟩⟩
theorem Un.track {fs ex : List Addr} {H0 H : Hp} {h0 h : Heap} {a : Addr} {o : HO} (u : Un fs ex H0 H h0 h) (new : h0.get? a = none) (na : H a = none) : Un fs ex H0 (upd H a o) h0 h where
  keep := u.keep
  slot := u.slot
  free := fun b ob e n hx => by
    rw [upd_ne (fun z => by rw [z, new] at e; cases e)]
    exact u.free b ob e n hx
  there := u.there
  tups := fun b xs e => by
    have q := u.tups b xs e
    rw [upd_ne (ne_of_none q na)]
    exact q
  frzs := fun b ob x e => by
    have q := u.frzs b ob x e
    rw [upd_ne (ne_of_none q na)]
    exact q
  tbls := fun b ps e => by
    obtain ⟨m, q⟩ := u.tbls b ps e
    exact ⟨m, by rw [upd_ne (ne_of_none q na)]; exact q⟩
theorem Inv.track {X : Cx} {pins : List (Addr × Obj)} {σ : L2.St} {H : Hp} {s : Shared} {a : Addr} {o : HO} (I : Inv X pins σ H s) (na : H a = none) (new : X.s_0.heap.get? a = none) (nL : a ≠ X.env.locals) (nC : ∀ x c, X.env.cells.lookup x = some c → c ≠ a)
    (nP : ∀ p ∈ X.pn ++ pins, p.1 ≠ a) (ok : ObjOk X.prog X.w (upd H a o) s.heap a o) : Inv X pins σ (upd H a o) s where
  ok := I.ok
  os := I.os
  bare := I.bare
  base := Un.track I.base new na
  loc := I.loc
  cell := I.cell
  free := by rw [upd_ne (Ne.symm nL)]; exact I.free
  freeC := fun x c e => by rw [upd_ne (nC x c e)]; exact I.freeC x c e
  pin := fun p hp => by
    obtain ⟨q1, q2, q3⟩ := I.pin p hp
    exact ⟨q1, by rw [upd_ne (nP p hp)]; exact q2, q3⟩
  hok := I.hok.laidN (fun _ _ q => q) na ok
  len := I.len
/-- the wish of a clause 'except x as n' whose exception a name of the suite may keep -/
def wKeep (K : PySem.W.Frag) (c : Value) (i : Nat) (ts : Addr → Value → Option Addr → TS) (Wo : WX) (D : Ends) : WX := fun cls d σ H => ∃ b, PySem.W.exmOne K cls c = some b ∧
  (b = true → ∀ a, H a = none → ts a cls d ⟨fun σ' H' => H' a = none → D.nx (σ'.set i none) (upd H' a (ExK cls d a)), D.rt, fun σ' H' => D.bk (σ'.set i none) H', fun σ' H' => D.ct (σ'.set i none) H'⟩ (σ.set i (some (.ref a))) H) ∧ (b = false → Wo cls d σ H)
theorem ps_keep {X : Cx} {x n : Str} {c : Value} {i : Nat} {body su : List Stmt} {b0 : Stmt} {np p1 p2 : Pos} {tb : WX → TS} {ts : Addr → Value → Option Addr → TS} {Wo : WX} (hx : X.ex = []) (hs : X.stack = X.env :: X.outer) (hf : X.env.frame = some X.env.locals) (nd : X.N.Nodup) (hi : X.N[i]? = some n)
    (hl : X.env.kindOf n = some .local) (hc : Names X x c) (tk : Takes X Wo) (hb : ∀ (W : WX) (pn : List (Addr × Obj)) (xe : Value → Shared → Prop), Takes (X.tr pn xe) W → PassesOwn (model X.prog X.w) X.A X.env xe → PSs (X.tr pn xe) body (tb W))
    (hsu : ∀ (a : Addr) (oe : Obj) (cls : Value) (d : Option Addr) (pn : List (Addr × Obj)), Zc cls d oe → (∃ vs, oe.data = .fields vs) → PSs (X.suite a ((a, oe) :: pn)) (b0 :: su) (ts a cls d)) :
    PS X (.Try body [.ExceptHandler (some (.Name x np)) (some n) (b0 :: su) p2] [] [] p1) (fun D σ H => tb (wKeep X.K c i ts Wo D) D σ H) := by
  refine ⟨fun pins s σ H D I h => ?_⟩
  have okX := I.ok
  have hfr : X.A.frames = some (X.env :: X.outer) := by rw [okX.frames, hs]
  let hd : List ExceptHandler := [.ExceptHandler (some (.Name x np)) (some n) (b0 :: su) p2]
  let xe : Value → Shared → Prop := fun e t => wpAny (model X.prog X.w) X.A (noteFrame e X.env) (fun _ t2 => wpAny (model X.prog X.w) X.A (setFlight e none) (fun _ t3 => wpAny (model X.prog X.w) X.A (handleBy e X.env hd) (SP X pins D) X.xe t3) X.xe t2) X.xe t
  have tkb : Takes (X.tr (X.pn ++ pins) xe) (wKeep X.K c i ts Wo D) := by
    intro u t z
    obtain ⟨a, B, sI, ps, σ1, H1, cls, d, rfl, J0, nb, up, sky, na, os, ag, b, hb1, hy, hn⟩ := z
    have J : Inv X pins σ1 H1 sI := J0.ofTry okX
    rw [show (X.tr (X.pn ++ pins) xe).stack = X.env :: X.outer from hs] at sky
    have nb' : ∀ b o, sI.heap.get? b = some o → b ∉ frs X.stack → B.get? b = some o := nb
    show wpAny _ X.A (noteFrame (.ref a) X.env) _ _ t
    refine Sky.land Zc.steady hfr hf sky fun h3 fl3 up3 => ?_
    obtain ⟨o3, v3, e3, z3, d3⟩ := fl3.there
    have J3 : Inv X pins σ1 H1 { t with heap := h3 } := J.landed nb' fl3.1 (up.trans up3) os ag
    have nfr : a ∉ frs (X.env :: X.outer) := fun hm => by
      obtain ⟨_, o', e', q'⟩ := Heap.FunFrames.mem fl3.2.2.1 hm
      rw [e3] at e'
      cases e'
      exact q' _ d3
    have nL : a ≠ X.env.locals := fun z => nfr (List.mem_filterMap.mpr ⟨_, List.mem_cons_self, by rw [hf, z]⟩)
    have nF : a ∉ X.fs := fun hm => by
      obtain ⟨e, he, q⟩ := List.mem_filterMap.mp hm
      exact nfr (List.mem_filterMap.mpr ⟨_, List.mem_cons_of_mem _ he, q⟩)
    have nI : sI.heap.get? a = none := by
      cases q : sI.heap.get? a with
      | none => rfl
      | some o =>
        have := nb' a o q (by rw [hs]; exact nfr)
        rw [fl3.2.1] at this
        cases this
    have n0 : X.s_0.heap.get? a = none := by
      cases q : X.s_0.heap.get? a with
      | none => rfl
      | some o =>
        obtain ⟨o', q'⟩ := J.base.there a o q (by rw [hx]; exact List.not_mem_nil)
        rw [nI] at q'
        cases q'
    have nP : ∀ p ∈ X.pn ++ pins, p.1 ≠ a := fun p hp z => by
      have q := (J.pin p hp).1
      rw [z, nI] at q
      cases q
    refine wpAny_handleBy_cons (codeAny_handlers_test ?_) (fun q => nomatch q)
    have ty : PySem.W.Looks (model X.prog X.w) h3 (typeOf (.ref a)) cls := fun A Q E s k q => wpAny_typeOf_ref (k _ _ e3) (by rw [z3.1]; exact q)
    have lm := PySem.W.exm_one (M := model X.prog X.w) J3.kIn ty hb1
    have test : ∀ {Q E : Value → Shared → Prop}, Q c { t with heap := h3 } → wpAny (model X.prog X.w) (X.A.mark (some (.ref a))) (eval (.Name x np) X.env) Q E { t with heap := h3 } := fun {Q E} q => by
      have S3 := J3.suite e3 d3 na nL nF
      rcases hc with ⟨hg, hdb, hm | ⟨hm, hv, hnn⟩⟩
      · exact ld_glob (X := X.suite a _) S3 hg hm q hdb
      · exact ld_blt (X := X.suite a _) S3 hg hm hv q hnn hdb
    refine test (lm.here ?_)
    cases b with
    | true =>
      refine codeAny_handlers_suite_as (HandSPX.lands_againZ fl3 fun h4 fl4 up4 => ?_)
      obtain ⟨o4, v4, e4, z4, d4⟩ := fl4.there
      have S4 := (J.landed nb' fl4.1 ((up.trans up3).trans up4) os ag : Inv X pins σ1 H1 { t with heap := h4 }).suite e4 d4 na nL nF
      refine store_ok (X := X.suite a ((a, o4) :: (X.pn ++ pins))) (v := .ref a) S4 nd hi (.inl hl) rfl (fun s5 S5 => ?_) (.inr hl)
      refine wpAny_mono ((hsu a o4 cls d (X.pn ++ pins) z4 ⟨_, d4⟩).run [] s5 _ H1 _ S5 (hy rfl a na)) (fun fl s6 hsp => ?_) (fun _ _ z => z.elim)
      have fin : ∀ {σ6 : L2.St} {H6 : Hp} {Q : Shared → Prop}, Inv (X.suite a ((a, o4) :: (X.pn ++ pins))) [] σ6 H6 s6 → (∀ s7, Inv (X.suite a ((a, o4) :: (X.pn ++ pins))) [] (σ6.set i none) H6 s7 → Q s7) →
          wpAny (model X.prog X.w) X.A (do bindName X.env n .none; unbindBehindTheSuite X.env n p2) (fun _ s7 => Q s7) X.xe s6 := fun S6 hq => gone_ok (X := X.suite a _) S6 nd hi hl hq
      cases fl with
      | next =>
        obtain ⟨σ6, H6, S6, q6⟩ := hsp
        refine fin S6 fun s7 S7 => ?_
        obtain ⟨g1, g2, _⟩ := S7.pin (a, o4) (List.mem_append.mpr (.inl List.mem_cons_self))
        have J7 := S7.unsuite okX
        refine ⟨_, _, Inv.track J7 g2 n0 nL (fun y cc e => ?_) nP (exK_ok g1 z4 d4), q6 g2⟩
        intro z
        obtain ⟨v, w1⟩ := J7.cell y cc e
        rw [z] at w1
        obtain ⟨ob, w2, w3⟩ := w1
        rw [g1] at w2
        cases w2
        rw [d4] at w3
        cases w3
      | brk =>
        obtain ⟨σ6, H6, S6, q6⟩ := hsp
        exact fin S6 fun s7 S7 => ⟨_, _, S7.unsuite okX, q6⟩
      | cont =>
        obtain ⟨σ6, H6, S6, q6⟩ := hsp
        exact fin S6 fun s7 S7 => ⟨_, _, S7.unsuite okX, q6⟩
      | ret u =>
        obtain ⟨v6, σ6, H6, S6, r6, q6⟩ := hsp
        exact fin S6 fun s7 S7 => ⟨_, _, _, S7.unsuite okX, r6, q6⟩
    | false =>
      show wpAny _ X.A (handleBy (.ref a) X.env []) _ _ _
      refine wpAny_handleBy_nil ?_
      obtain ⟨_, _, _, oe, vs, T, _, _, he, _, hd1, ht, _⟩ := id fl3
      unfold PySem.passOn
      refine wpAny_bind (wpAny_field he hd1 ht ?_)
      rw [if_neg (show ¬ ((Value.ref T == Value.none) = true) from by simp)]
      have away : wpAny (model X.prog X.w) X.A (setFlight (.ref a) X.env.frame) (fun _ t4 => wpAny (model X.prog X.w) X.A (throw (.ref a) : Sem Flow) (SP X pins D) X.xe t4) X.xe { t with heap := h3 } := by
        rw [hf]
        refine HandSPX.setFlight_upZ fl3 fun h4 held up4 => wpAny_throw (tk _ _ ?_)
        refine ⟨a, B, sI, pins, σ1, H1, cls, d, rfl, J, nb', (up.trans up3).trans up4, ?_, na, os, ag, hn rfl⟩
        rw [hs]
        exact .inr (.inr held)
      exact wpAny_bind away
  refine wpAny_Try_except (wpAny_mono ((hb _ (X.pn ++ pins) xe tkb PassesOwn.looking).run [] s σ H D (I.toTry _) h) (fun f s1 q => ?_) fun e s1 z => z)
  cases f with
  | next =>
    obtain ⟨σ1, H1, J1, q1⟩ := q
    exact wpAny_execs_nil ⟨_, _, J1.ofTry okX, q1⟩
  | brk =>
    obtain ⟨σ1, H1, J1, q1⟩ := q
    exact ⟨_, _, J1.ofTry okX, q1⟩
  | cont =>
    obtain ⟨σ1, H1, J1, q1⟩ := q
    exact ⟨_, _, J1.ofTry okX, q1⟩
  | ret u =>
    obtain ⟨v, σ1, H1, J1, r1, q1⟩ := q
    exact ⟨_, _, _, J1.ofTry okX, r1, q1⟩
/-- a class of errors of the program, over ValueError, without __init__ of its own: what raising it, and asking a kept one, wants -/
structure ExF (K : PySem.W.Frag) (C : Addr) : Prop where
  x : PySem.W.excIn K C [.type "ValueError", .type "Exception", .type "BaseException", .type "object"] "ValueError.__new__" = true
  k : PySem.W.keepIn K (.ref C) = true
  b : PySem.W.subIn K (.ref C) (.type "BaseException") = some true
  t : PySem.W.typeIn K (.ref C) = some (.type "type")
  i : PySem.W.isClsIn K C = true
/-- isinstance(x, c), x a kept exception of the own class D -/
def rIsX (K : PySem.W.Frag) : List V → Hp → VK → Prop := fun xs H Q => ∃ (a D : Addr) (c : V) (u : Value) (b : Bool), xs = [.ref a, c] ∧ H a = some (ExK (.ref D) none a) ∧ ExcC K D ∧ ClsV c u ∧ PySem.W.kitOne K (.ref D) u = some b ∧ Q (.bl b) H
def rIsXT (K : PySem.W.Frag) : List V → Hp → VK → Prop := fun xs H Q => ∃ (a D tp : Addr) (cs : List V) (us : List Value) (b : Bool), xs = [.ref a, .ref tp] ∧ H a = some (ExK (.ref D) none a) ∧ ExcC K D ∧ H tp = some (.tup cs) ∧ Paired ClsV cs us ∧ PySem.W.kitAny K (.ref D) us = some b ∧ Q (.bl b) H
theorem exK_inst {X : Cx} {pins : List (Addr × Obj)} {σ : L2.St} {H : Hp} {s : Shared} {a D : Addr} (I : Inv X pins σ H s) (ha : H a = some (ExK (.ref D) none a)) : ∃ oe, PySem.W.InstAt s.heap a oe D none := by
  obtain ⟨⟨oe, vs, g1, z1, d1⟩, _⟩ := (show ObjOk X.prog X.w H s.heap a (ExK (.ref D) none a) from I.hok a _ ha)
  refine ⟨oe, ?_⟩
  obtain ⟨oc, od, oda, osl⟩ := oe
  obtain ⟨h1, h2⟩ := z1
  dsimp only at h1 h2 d1
  subst h1 h2 d1
  exact ⟨g1, rfl, rfl, trivial⟩
theorem call_isX {X : Cx} : CallR X (.builtin "isinstance") (rIsX X.K) := by
  intro pins s σ H xs us Q I r h
  obtain ⟨a, D, c, u, b, rfl, ha, C, k, e, q⟩ := h
  obtain ⟨u1, u2, rfl, r1, r2⟩ := vals2 r
  have e2 := k.eq r2
  subst e2
  cases (show u1 = Value.ref a from r1)
  obtain ⟨oe, J⟩ := exK_inst I ha
  exact PySem.W.kia_one (PySem.W.handS_kitx_exc C.hg C.hk C.hs C.hd C.ha C.hn C.ht C.hm) I.kIn J e (fun z => nomatch z) fun tk => ⟨.bl b, H, I.tok tk, rfl, q⟩
theorem call_isXT {X : Cx} : CallR X (.builtin "isinstance") (rIsXT X.K) := by
  intro pins s σ H xs us Q I r h
  obtain ⟨a, D, tp, cs, ws, b, rfl, ha, C, hT, k, e, q⟩ := h
  obtain ⟨u1, u2, rfl, r1, r2⟩ := vals2 r
  cases (show u1 = Value.ref a from r1)
  cases (show u2 = Value.ref tp from r2)
  obtain ⟨oe, J⟩ := exK_inst I ha
  obtain ⟨_, its, rv, o, h1, h2, n, h3⟩ := (show ObjOk X.prog X.w H s.heap tp (.tup cs) from I.hok tp _ hT)
  have e3 := ClsV.all k rv
  subst e3
  obtain ⟨oc, od, dt, sl⟩ := o
  simp only at h2 h3
  subst h2 h3
  exact PySem.W.kia_tup (PySem.W.handS_kitx_exc C.hg C.hk C.hs C.hd C.ha C.hn C.ht C.hm) I.kIn J h1 e (fun z => nomatch z) fun tk => ⟨.bl b, H, I.tok tk, rfl, q⟩
/-! ### an own exception's __init__: super().__init__(e) of ValueError, then the rest -/
section
variable {P : Program} {w : World} {K : PySem.W.Frag} {mg : Str → Option Value} {base : Heap}
theorem ve_call {X : Cx} {pins : List (Addr × Obj)} {σ : L2.St} {H : Hp} {s : Shared} {a u C : Addr} {E : Value → Shared → Prop} {A : Around} {us : List Value} {Q : Value → Shared → Prop} (T : OexC X.K C) (I : Inv X ((u, PySem.W.kxs_mw "ValueError.__init__" a) :: pins) σ H s) (e : H a = some (exo a C none)) (hl : us.length ≤ sizeLine)
    (h : ∀ s', Inv X pins σ H s' → Q .none s') : wpAny (model X.prog X.w) A (call (.ref u) us) Q E s := by
  obtain ⟨nm, q, N, bs, bm, sn, sub, ab, col, dd, k0, k1, k2, k3, k5, hC, hbm⟩ := T.cls
  obtain ⟨t1, ho⟩ := exo_at I.hok e
  have hu := ClX.pin_at I
  have I' := ClX.unpin I
  obtain ⟨hp, g, d, t, os⟩ := s
  refine wpAny_call (codeAny_of_tree ?_)
  show wpAny _ A.in1 (callAny (.ref u) ⟨us, []⟩) _ _ _
  simp only [callAny]
  refine wpAny_bind (wpAny_load hu ?_)
  simp only [PySem.W.kxs_mw, show (Value.type "method-wrapper" == Value.type "method" || Value.type "method-wrapper" == Value.type "builtin_function_or_method" || Value.type "method-wrapper" == Value.type "method-wrapper") = true by decide, if_true]
  refine PySem.W.KFB.if_so (by decide) ?_
  refine wpAny_bind (PySem.ESX.check_bound F.excBase_ValueError (I.kIn _ _ hC) ho rfl ?_)
  refine wpAny_bind (wpAny_pure (wpAny_pure ?_))
  refine ⟨Code.quiet_builtin _ (by decide +kernel), codeAny_builtin F.excBase_ValueError.initEntry ?_⟩
  rw [Around.under_plainId F.excBase_ValueError.init.plain _]
  wp_walk
  have fin : ∀ h' t1, (∀ b o, b ≠ a → hp.get? b = some o → h'.get? b = some o) → h'.get? a = some (PySem.HandSPX.excO C t1) → Q .none ⟨h', g, d, t, os⟩ := fun h' t2 k hx => by
    have J := I'.write (t' := t) (x := a) (e := a) (o := exo a C none) (by rw [e]; exact True.intro) (.inl rfl) k ⟨_, hx⟩ (exo_ok hx)
    have eu : upd H a (exo a C none) = H := by
      funext b
      by_cases hb : b = a
      · rw [hb, upd_same, e]
      · rw [upd_ne hb]
    rw [eu] at J
    exact h _ J
  refine fin _ hp.objs.size (fun b o hb ho => ?_) ?_
  · rw [Heap.get?_update_other _ _ (Ne.symm hb)]
    exact Heap.get?_push_of_some _ ho
  · rw [Heap.get?_update_self _ (Heap.get?_push_of_some _ ho) rfl]
    rfl
theorem ok_esuper {x qual : Str} {st : Stmt} {f C : Addr} {fd : FuncData} {ps : List Str} {k : Nat} {file self : Str} {sp : Sp} {rest : List Stmt} {e : Expr} {es : List Expr} {p0 p1 ap pos sps : Pos}
    (FS : FunS K file x qual st f C fd) (S : ScS ps (defScope st)) (T : OexC K C) (hsub : PySem.W.mroIn K C (.ref C) = some true) (hm : PySem.W.ks_superIn K C C "__init__" = some (some (.builtin "ValueError.__init__"))) (hB : PySem.W.subIn K (.ref C) (.type "ValueError") = some true)
    (hop : PySem.W.nsIn K cStatics "thirdparty.any" = some none) (hsu : mg "super" = none)
    (hfile : ((P.main.file : Str) == file) = true) (htop : (P.main.scope.names.lookup ("super" : Str)).isSome = false)
    (hb : defBody st = .Expr (.Call (.Attribute (.Call (.Name "super" p0) [] [] p1) "__init__" ap) (e :: es) [] pos) sps :: rest) (hself : ∃ ar, ((defArgs st).posonlyargs ++ (defArgs st).args).head? = some ar ∧ ar.arg = self) (h0 : ps[0]? = some self)
    (hev : ∀ env, ∃ pl, eval (.Call (.Attribute (.Call (.Name "super" p0) [] [] p1) "__init__" ap) (e :: es) [] pos) env = (do
      let ov ← attributeBase (.Call (.Name "super" p0) [] [] p1) "__init__" env (eval (.Call (.Name "super" p0) [] [] p1) env)
      standAt ap.atName
      let (g, first) ← holding [ov] (getMethod ov "__init__" pl)
      callWith pos g first (backTo pos (starEach (e :: es) env)) []))
    (hsw : ∀ env, swapsWith (.Call (.Attribute (.Call (.Name "super" p0) [] [] p1) "__init__" ap) (e :: es) [] pos) none sps.line env = pure false)
    (hst : ∀ env, starEach (e :: es) env = (false, eval e env) :: starEach es env) (hpl : ∀ env, (backTo pos (starEach es env)).any (·.1) = false)
    (many : ∀ vs H Q E, sp vs H Q E → vs.length = ps.length) (hE : ∀ {vs H Q E}, sp vs H Q E → sp vs H Q E0)
    (want : ∀ (A : Around) (cda cc : Addr) (outer : List Env) (s : Shared) (H : Hp) (vs : List V) (Q : VK), Room (k + 1) A → sp vs H Q E0 → ∃ (a : Addr) (t : TA) (u : TS), vs[0]? = some (.ref a) ∧ H a = some (exo a C none) ∧ PA (cxS P w K mg base ps qual (defScope st) f (.ref cda) cc A outer s H) (e :: es) t ∧
      PSs (cxS P w K mg base ps qual (defScope st) f (.ref cda) cc A outer s H) rest u ∧ t (vs.map some) H (fun ws H1 => ws.length ≤ 1000 ∧ H1 a = some (exo a C none) ∧ u { nx := fun _ H' => Q .non H', rt := Q } (vs.map some) H1)) :
    FnOk P w K mg base CX0 (k + 1) f fd ps sp := by
  refine ⟨many, fun A outer s H args us vs Q E hr e0 bind rel hsp => ?_⟩
  obtain ⟨oc, od, kV, doc, pm, an, cda, cc, ct, osl, ck, cdd, cvs, ccs, tf, lk, ld, ls, rfl, lf, hcode, lcda, hvs, lcc⟩ := FS.ex
  have old : ∀ b o, base.get? b = some o → s.heap.get? b = some o := fun b o e => (e0.bs b o e).1
  have KX : K.In s.heap := e0.mod.kin.keeps old
  have lim : s.heap.NoLimit := e0.mod.nolimit.keeps old
  refine ks_codeAny_call_defAt (body := defBody st) (binds := ps.zip us) hr.depth (KX _ _ lf) rfl lim (PySem.W.codeRec_of KX hcode) rfl bind S.nocell (fun y hy => S.par _ (List.of_mem_zip (a := y.1) (b := y.2) hy).1) (fun h1 ns hk => ?_) S.co S.gen S.kind
  have I := inv_super (qual := qual) (f := f) (cd := .ref cda) (tk := s.toks + (ps.zip us).length) S hr.hd e0 (many _ _ _ _ hsp) rel lcc ns hk
  obtain ⟨x, t, u, hx0, hx, pa, pr, q⟩ := want A cda cc outer s H vs Q hr (hE hsp)
  obtain ⟨t1, hox⟩ := exo_at I.hok hx
  have J : PySem.W.InstAt h1 x _ C none := ⟨hox, rfl, rfl, trivial⟩
  obtain ⟨nm, qn, N, bs, bm, sn, sub, ab, col, dd, k0, k1, k2, k3, k5, hC, hbm⟩ := T.cls
  obtain ⟨cdC, hcC⟩ : ∃ cdC, PySem.W.clsIn K C = some cdC := by
    cases z : PySem.W.clsIn K C with
    | some c => exact ⟨c, rfl⟩
    | none =>
      unfold PySem.W.ks_superIn at hm
      rw [z] at hm
      cases hm
  have KX1 := I.kIn
  obtain ⟨oD, hD1, hD2⟩ : ∃ oD, h1.get? C = some oD ∧ oD.data = .cls cdC := by
    have hcD' := hcC
    unfold PySem.W.clsIn at hcD'
    split at hcD'
    · rename_i ho
      cases hcD'
      exact ⟨_, KX1 _ _ ho, rfl⟩
    · cases hcD'
  obtain ⟨mb, hb1, hb2⟩ := I.mod.blt
  obtain ⟨ar, har, ear⟩ := hself
  obtain ⟨ux, hux, rux⟩ := rel.get hx0
  obtain rfl : ux = Value.ref x := rux
  have hm' : PySem.W.alongIn K "__init__" ((cdC.mro.dropWhile (· != .ref C)).drop 1) = some (some (.builtin "ValueError.__init__")) := by
    unfold PySem.W.ks_superIn at hm
    rw [hcC] at hm
    exact hm
  have key : PySem.wpAt (model P w) (cxS P w K mg base ps qual (defScope st) f (.ref cda) cc A outer s H).A (.func (defBody st) (cxS P w K mg base ps qual (defScope st) f (.ref cda) cc A outer s H).env) (execs (defBody st) (cxS P w K mg base ps qual (defScope st) f (.ref cda) cc A outer s H).env)
      (SP (cxS P w K mg base ps qual (defScope st) f (.ref cda) cc A outer s H) [] { nx := fun _ H' => Q .non H', rt := Q }) (fun _ _ => False) { s with heap := h1, toks := s.toks + (ps.zip us).length } := by
    have e1 := congrArg (fun b => execs b (cxS P w K mg base ps qual (defScope st) f (.ref cda) cc A outer s H).env) hb
    rw [show execs (defBody st) (cxS P w K mg base ps qual (defScope st) f (.ref cda) cc A outer s H).env = _ from e1]
    obtain ⟨pl, epl⟩ := hev (cxS P w K mg base ps qual (defScope st) f (.ref cda) cc A outer s H).env
    refine ks_wpAt_execs_cons (ks_wpAt_Expr_any (ks_wpAt_MethodCall ?_ epl) (by show ((defScope st).kind == .module && _) = false; rw [S.kind]; rfl) (hsw _))
    refine ks_wpAt_super_base S.sup S.cls (by decide) rfl (KX1 _ _ lf) rfl har rfl (KX1 _ _ lcda) rfl hvs hfile htop ?_
    refine PySem.W.ks_loadName_global S.kind S.sup (PySem.Calls.loadGlobal_builtin (I.mod.glob.keeps I.bk) hsu (hb1.keeps I.bk) ((hb2 _ (by decide)).trans (by rfl)) ⟨rfl, ?_⟩)
    refine wpAny_loadName_free S.kind S.cls rfl ⟨_, KX1 _ _ lcc, rfl⟩ ?_
    refine wpAny_loadName_local S.kind (by rw [ear]; exact S.par self (List.mem_of_getElem? h0)) ns (by rw [ear]; exact rev_get S.nd h0 hux) ?_
    refine ks_wpAny_isType_cls hD1 hD2 ⟨rfl, ?_⟩
    refine ks_wpAny_call_super hD1 hD2 J.at_ J.cls (fun c e => ?_) (PySem.W.looks_mroIn KX1 hsub) (fun h' e ke => ?_)
    · have z := J.no
      unfold PySem.W.notCls at z
      rw [e] at z
      cases z
    have I1 := ClX.pin_new (t' := s.toks + (ps.zip us).length) I ke (Nat.le_refl _) e (fun v z => nomatch z)
    have J1 : PySem.W.InstAt h' x _ C none := ⟨ke _ _ hox, rfl, rfl, trivial⟩
    have hI : PySem.W.Looks (model P w) h' (isInstance (.ref x) (.type "ValueError")) true := J1.type.andThen (PySem.W.looks_subIn I1.kIn hB)
    refine PySem.W.kxs_getMethod PySem.W.kxs_ValueError e (PySem.W.looks_opaque I1.kIn hop) (l₀ := cdC.mro) (fun A Q E s k q => wpAny_bind ((PySem.W.looks_clsIn I1.kIn hcC) A _ E s k (wpAny_pure q))) rfl I1.kIn hm' hI (PySem.W.ks_ne KX1 J hcC) (by decide) ?_
    have I2 := ClX.pin_new (t' := s.toks + (ps.zip us).length + 1) (h' := h'.push (PySem.W.kxs_mw "ValueError.__init__" x)) I1 (fun _ _ z => Heap.get?_push_of_some _ z) (Nat.le_refl _) (Heap.get?_push_size _ rfl) (fun v z => nomatch z)
    dsimp only
    have hst' := hst (cxS P w K mg base ps qual (defScope st) f (.ref cda) cc A outer s H).env
    have hpl' := hpl (cxS P w K mg base ps qual (defScope st) f (.ref cda) cc A outer s H).env
    rw [hst']
    refine PySem.W.kxs_callWith (i := "ValueError.__init__") (x := x) (by show (false || (backTo pos (starEach es _)).any (·.1)) = false; rw [hpl']; rfl) ?_
    refine PySem.Calls.evalArgs_plain ?_
    have z := pa.run pos _ _ _ H _ I2 q
    rw [hst'] at z
    refine thn z fun ws s3 ⟨zs, H2, I3, rv, hl, ea, q2⟩ => ⟨ClX.pin_at I3, ?_⟩
    refine ve_call T I3 ea (by show ws.length ≤ _; rw [← Paired.length rv, sizeLine_eq]; omega) fun s4 I4 => ?_
    exact PySem.wpAt_of_wpAny (pr.run [] _ _ H2 _ (ClX.unpin I4) q2)
  refine ks_wpAt_mono key (fun fl s' hs => ?_) fun _ _ z => False.elim z
  cases fl with
  | ret v =>
    obtain ⟨v', σ', H', J, rv, q⟩ := hs
    exact ⟨v', H', J.os, J.bare, J.base, J.hok, rv, q⟩
  | next =>
    obtain ⟨σ', H', J, q⟩ := hs
    exact ⟨V.non, H', J.os, J.bare, J.base, J.hok, rfl, q⟩
  | brk =>
    obtain ⟨_, _, _, q⟩ := hs
    exact q.elim
  | cont =>
    obtain ⟨_, _, _, q⟩ := hs
    exact q.elim
end
/-! ### a kept exception with a dict: isinstance, a field of it -/
section
open PySem.W PySem.Calls
variable {prog : Program} {w : World} {K : PySem.W.Frag} {x D : Addr} {ox : Obj} {od : Option Obj}
theorem findObj_dataD {C : Addr} {name : Str} {a g : Value} (hc : (clsIn K C).isSome = true) (ha : findIn K (.ref C) name = some (some a)) (hg : specialIn K a "__get__" = some (some g)) (ht : takesIn K a = some true) : findObj K C od name = some (.bind g a) := by
  cases z : clsIn K C with
  | none => rw [z] at hc; cases hc
  | some cd =>
    unfold findObj
    rw [z, Option.bind_some, ha, Option.bind_some]
    simp [hg, ht]
theorem class_excD {A : Around} {E : Value → Shared → Prop} {s : Shared} {Q : Option Value → Shared → Prop} (C : ExcC K D) (X : K.In s.heap) (I : InstAt s.heap x ox D od) (h : Q (some (.ref D)) { s with toks := s.toks + 1 }) : wpAny (model prog w) A (getAttr? (.ref x) "__class__") Q E s := by
  have hf : findObj K D od "__class__" = some (.bind (.builtin "getset_descriptor.__get__") (.builtin "object.__class__")) := findObj_dataD (by obtain ⟨cd, hc, _⟩ := any_some C.hd; rw [hc]; rfl) C.ha C.hn C.ht
  obtain ⟨hp, g, d, t, os⟩ := s
  have ty := I.type (M := model prog w)
  have sub : Looks (model prog w) hp (isInstance (.ref x) (.type "BaseException")) true := ty.andThen (looks_subIn X C.hs)
  have no : ¬ ((onTheHeap (Value.ref D) && Value.builtin "BaseException.__getattribute__" == Value.builtin "object.__getattribute__") = true) := by
    rw [show (Value.builtin "BaseException.__getattribute__" == Value.builtin "object.__getattribute__") = false by decide +kernel]
    exact Bool.false_ne_true
  unfold getAttr? getAttrBy? getAttrBy
  refine wpAny_bind (wpAny_mkText (wpAny_bind (wpAny_attempt (wpAny_holding (wpAny_bind (ty.at (wpAny_bind ((looks_findIn X C.hg).at ?_))))))))
  show wpAny _ _ (if (onTheHeap (Value.ref D) && Value.builtin "BaseException.__getattribute__" == Value.builtin "object.__getattribute__") = true then _ else _) _ _ _
  rw [if_neg no]
  unfold getAttrByItsOwn hookBefore
  refine wpAny_bind ?_
  rw [if_pos (show onTheHeap (Value.ref D) = true from rfl)]
  refine (looks_findIn X C.hk).at (wpAny_bind (wpAny_attempt (wpAny_holding ?_)))
  unfold callGetattribute
  rw [show (false && onTheHeap (Value.builtin "BaseException.__getattribute__")) = false from rfl, if_neg Bool.false_ne_true]
  unfold boundAndCalled
  rw [PySem.F.excAttr_ValueError.ga.bind (.ref x)]
  refine wpAny_bind (wpAny_pure ?_)
  show wpAny _ _ (call (.builtin "BaseException.__getattribute__") [.ref x, .str "__class__" t]) _ _ _
  refine wpAny_call (codeAny_call_builtin PySem.F.excAttr_ValueError.ga.plain PySem.F.entry_bexc_ga ?_)
  refine @check_slot (model prog w) _ _ ⟨hp, g, d, t + 1, os⟩ "BaseException.__getattribute__" "BaseException" "__getattribute__" (.ref x) [.str "__class__" t] [] _ (by decide +kernel) (by decide +kernel) sub (PySem.F.args_bexc_ga (.ref x) (.str "__class__" t)) ?_
  unfold Builtin.«object.__getattribute__»
  refine wpAny_bind (wpAny_of_eq (a := ((Value.ref x : Value), [Value.str "__class__" t])) (by first | rfl | (simp only [slotArgs]; rfl)) ?_)
  refine wpAny_bind (wpAny_pure (wpAny_bind (ty.at (wpAny_bind ((looks_find X I hf).at ?_)))))
  show wpAny _ _ (holding [Value.builtin "object.__class__"] (call (.builtin "getset_descriptor.__get__") [.builtin "object.__class__", .ref x, .ref D]) >>= ret) _ _ _
  refine wpAny_bind (wpAny_holding (wpAny_call (class_get (s := ⟨hp, g, d, t + 1, os⟩) (ox := ox) (od := od) X I C.hm ?_)))
  refine wpAny_pure ?_
  show wpAny _ _ (handedOut (.ref D)) _ _ _
  rw [handedOut_of (v := .ref D) rfl]
  first
    | exact wpAny_pure (wpAny_pure h)
    | exact wpAny_pure h
    | exact wpAny_pure (wpAny_bind (wpAny_pure (wpAny_pure h)))
theorem kitx_excD (C : ExcC K D) : KitX K (.ref x) (.ref D) (fun h => InstAt h x ox D od) :=
  have Z := PySem.W.handS_kitx_exc (x := x) (ox := ox) C.hg C.hk C.hs C.hd C.ha C.hn C.ht C.hm
  { ty := fun _ _ _ I => I.type
    it := fun M h X _ => by
      obtain ⟨cdD, hcD, _⟩ := any_some C.hd
      unfold clsIn at hcD
      split at hcD
      · rename_i c' d' cd' sl' ho
        intro A' Q' E' s' k q
        unfold isType loadHead
        exact wpAny_bind (wpAny_loadPart (k _ _ (X _ _ ho)) (wpAny_pure q))
      · cases hcD
    ne := Z.ne
    ca := fun X I k => class_excD C X I k }
end
theorem exK_instD {X : Cx} {pins : List (Addr × Obj)} {σ : L2.St} {H : Hp} {s : Shared} {a D dd : Addr} {fs : List (Str × V)} (I : Inv X pins σ H s) (ha : H a = some (ExK (.ref D) (some dd) a)) (hd : H dd = some (.xd fs)) :
    ∃ oe od, PySem.W.InstAt s.heap a oe D (some od) ∧ oe.cls = .ref D ∧ ∃ mA : Str → Option Value, (∀ n, PySem.W.lookIn n od = some (mA n)) ∧ ∀ f, RelO (fs.lookup f) (mA f) := by
  obtain ⟨⟨oe, vs, g1, z1, d1⟩, _⟩ := (show ObjOk X.prog X.w H s.heap a (ExK (.ref D) (some dd) a) from I.hok a _ ha)
  have hx : ObjOk X.prog X.w H s.heap dd (.xd fs) := I.hok dd _ hd
  obtain ⟨mA, hns, hr⟩ := hx
  obtain ⟨od, ho, hl⟩ := lookIn_ns hns
  refine ⟨oe, od, ?_, z1.1, mA, hl, hr⟩
  obtain ⟨oc, od', oda, osl⟩ := oe
  obtain ⟨h1, h2⟩ := z1
  dsimp only at h1 h2 d1
  subst h1 h2 d1
  exact ⟨g1, rfl, rfl, ho⟩
def rIsXd (K : PySem.W.Frag) : List V → Hp → VK → Prop := fun xs H Q => ∃ (a D dd : Addr) (fs : List (Str × V)) (c : V) (u : Value) (b : Bool), xs = [.ref a, c] ∧ H a = some (ExK (.ref D) (some dd) a) ∧ H dd = some (.xd fs) ∧ ExcC K D ∧ ClsV c u ∧ PySem.W.kitOne K (.ref D) u = some b ∧ Q (.bl b) H
theorem call_isXd {X : Cx} : CallR X (.builtin "isinstance") (rIsXd X.K) := by
  intro pins s σ H xs us Q I r h
  obtain ⟨a, D, dd, fs, c, u, b, rfl, ha, hd, C, k, e, q⟩ := h
  obtain ⟨u1, u2, rfl, r1, r2⟩ := vals2 r
  have e2 := k.eq r2
  subst e2
  cases (show u1 = Value.ref a from r1)
  obtain ⟨oe, od, J, _⟩ := exK_instD I ha hd
  exact PySem.W.kia_one (kitx_excD C) I.kIn J e (fun z => nomatch z) fun tk => ⟨.bl b, H, I.tok tk, rfl, q⟩
/-- e.n, e a kept exception -/
def tXfK (K : PySem.W.Frag) (n : Str) (te : TE) : TE := fun σ H Q => te σ H fun x H1 => ∃ (a C dd : Addr) (fs : List (Str × V)) (v : V), x = .ref a ∧ H1 a = some (ExK (.ref C) (some dd) a) ∧ H1 dd = some (.xd fs) ∧ XfC K C ∧ PySem.W.findIn K (.ref C) n = some none ∧ fs.lookup n = some v ∧ Q v H1
theorem pe_xfK {X : Cx} {e : Expr} {te : TE} {pos : Pos} {n : Str} (he : PE X e te) (hb : attributeBase e n X.env (eval e X.env) = eval e X.env := by rfl) : PE X (.Attribute e n pos) (tXfK X.K n te) := by
  refine ⟨fun pins s σ H Q I h => ?_⟩
  refine attr_of hb (thn (he.run pins s σ H _ I h) fun u s1 hh => ?_)
  obtain ⟨x, H1, I1, rx, a, C, dd, fs, v, ex, ea, ed, T, hno, l, q⟩ := hh
  subst ex
  obtain rfl : u = Value.ref a := rx
  obtain ⟨oe, od, J, _, mA, hl, hr⟩ := exK_instD I1 ea ed
  obtain ⟨u, hu, ru⟩ := RelO.some_of (v := v) (o := mA n) (by rw [← l]; exact hr n)
  exact HandSPX.exc_get I1.kIn J T.ga T.gg T.exC (PySem.W.findObj_own T.hdC hno rfl (by rw [hl, hu])) (handed_of ru) ⟨v, H1, I1.tok _, ru, q⟩
/-! ### an own exception class with an __init__ that keeps one number -/
/-- what the written part says of the class, as one word -/
def oexB (K : PySem.W.Frag) (C : Addr) : Bool := match K.lookup C with
  | some ⟨.type "type", _, .cls cd, sl⟩ => (match cd.mro, sl.toList with
    | .ref C' :: bm, [_, _, _, _, some (.builtin n), _] => C' == C && n == "ValueError.__new__" && !cd.hasDel && cd.hasDict && PySem.HandSPX.refsVE bm
    | _, _ => false)
  | _ => false
theorem oexC_of {K : PySem.W.Frag} {C : Addr} (q : oexB K C = true) (sa : PySem.W.findIn K (.ref C) "__setattr__" = some (some (.builtin "object.__setattr__"))) (exC : PySem.W.subIn K (.ref C) (.type "BaseException") = some true) (tyC : PySem.W.typeIn K (.ref C) = some (.type "type")) (kC : PySem.W.keepIn K (.ref C) = true) : OexC K C := by
  refine ⟨?_, sa, exC, tyC, kC⟩
  unfold oexB at q
  split at q
  · rename_i dd cd sl ho
    split at q
    · rename_i C' bm k0 k1 k2 k3 n k5 hm hs
      simp only [Bool.and_eq_true, beq_iff_eq, Bool.not_eq_true'] at q
      obtain ⟨⟨⟨⟨rfl, rfl⟩, hdel⟩, hdict⟩, ht⟩ := q
      obtain ⟨nm, bs, mro, ns, qn, hd, sn, sub, ab, col, del⟩ := cd
      dsimp only at hm hdel hdict
      subst hm hdel hdict
      have hsl : sl = #[k0, k1, k2, k3, some (.builtin "ValueError.__new__"), k5] := by
        obtain ⟨l⟩ := sl
        simp only at hs
        rw [hs]
      subst hsl
      exact ⟨nm, qn, ns, bs, bm, sn, sub, ab, col, dd, k0, k1, k2, k3, k5, ho, ht⟩
    · cases q
  · cases q
def spExI (C : Addr) (f : Str) : Sp := fun vs H Q _ => ∃ (a : Addr) (n : Int), vs = [.ref a, .int n] ∧ n.natAbs.log2 < 1920 ∧ (toString n : Str).length ≤ 900 ∧ H a = some (exo a C none) ∧ ∀ d, H d = none → d ≠ a → Q .non (upd (upd H d (exd d [(f, .int n)])) a (exo a C (some d)))
theorem raise_int {C : Addr} {f : Str} {n : Int} {H : Hp} {Q : XK} (h1 : n.natAbs.log2 < 1920) (h2 : (toString n : Str).length ≤ 900) (h : ∀ d, H d = none → Q (.ref C) (some d) (upd H d (.xd [(f, .int n)]))) :
    ([V.int n]).length ≤ 1000 ∧ ∀ a, H a = none → spExI C f (.ref a :: ([V.int n] ++ [])) (upd H a (exo a C none))
      (fun v H2 => v = .non ∧ ∃ (d : Addr) (fs : List (Str × V)), H2 a = some (exo a C (some d)) ∧ H2 d = some (exd d fs) ∧ H d = none ∧ Q (.ref C) (some d) (upd (del H2 a) d (.xd fs))) (fun _ _ _ => False) := by
  refine ⟨by show 1 ≤ 1000; decide, fun a na => ⟨a, n, rfl, h1, h2, upd_same, fun d nd ne => ⟨rfl, d, _, upd_same, by rw [upd_ne ne, upd_same], by rw [upd_ne ne] at nd; exact nd, ?_⟩⟩⟩
  rw [upd_ne ne] at nd
  have e : upd (del (upd (upd (upd H a (exo a C none)) d (exd d [(f, .int n)])) a (exo a C (some d))) a) d (.xd [(f, .int n)]) = upd H d (.xd [(f, .int n)]) := by
    funext b
    by_cases hb : b = d
    · rw [hb, upd_same, upd_same]
    · rw [upd_ne hb, upd_ne hb]
      by_cases ha : b = a
      · rw [ha, del_same, na]
      · rw [del_ne ha, upd_ne ha, upd_ne hb, upd_ne ha]
  rw [e]
  exact h d nd
/-! ### C(f = v), C an own exception class with an own __init__ -/
section
open PySem.W PySem.Calls PySem.HandSPX
section
variable {M : Model} {A : Around} {E : Value → Shared → Prop} {h : Heap} {g : Array GenState} {d : Drawn} {t : Nat} {os : OsState}
variable {nm q : Str} {C N : Addr} {bs bm bmB : List Value} {hdct : Bool} {sn : List Str} {sub : List Value} {ab : Bool} {col : Option Bool} {dd : Option Addr} {k0 k1 k2 k3 k5 : Option Value} {B newId initId : String}
theorem check_newK (F : ExcBaseFacts B newId initId bmB) (hT : ∀ X : String, bm.contains (.type X) = bmB.contains (.type X)) {n : Str} {v : Value} {Q : Unit → Shared → Prop}
    (hC : h.get? C = some (excClassObj nm q C N bs bm hdct sn sub ab col dd k0 k1 k2 k3 k5 newId)) (hq : Q () ⟨h, g, d, t, os⟩) : wpAny M A (checkBuiltinCall newId ⟨[.ref C], [(n, v)]⟩) Q E ⟨h, g, d, t, os⟩ := by
  have hcont : (Value.ref C :: bm).contains (.type B) = true := by rw [List.contains_cons, hT, F.hasB, Bool.or_true]
  have hstar := F.noStar
  simp only [checkBuiltinCall, F.newKind, F.newSplit, F.newRow]
  repeat (first | refine wpAny_loadPart_at hC ?_ | (refine wpAny_isSubtype_exc hC ?_; rw [hcont]) | refine wpAny_staticBase_exc hC ?_ | refine wpAny_madeBy_exc hC ?_ | simp only [bne_self_eq_false, Bool.false_eq_true, if_false] | wp_step)
  exact hq
end
section
variable {prog : Program} {w : World} {A : Around} {E : Value → Shared → Prop} {R : Result → Shared → Prop} {h : Heap} {g : Array GenState} {d : Drawn} {t : Nat} {os : OsState}
variable {nm q : Str} {C N : Addr} {bs bm bmB : List Value} {hdct : Bool} {sn : List Str} {sub : List Value} {ab : Bool} {col : Option Bool} {dd : Option Addr} {k0 k1 k2 k3 k5 : Option Value} {B newId initId : String}
theorem new_ownK (F : ExcBaseFacts B newId initId bmB) (hT : ∀ X : String, bm.contains (.type X) = bmB.contains (.type X)) {n : Str} {v : Value}
    (hC : h.get? C = some (excClassObj nm q C N bs bm hdct sn sub ab col dd k0 k1 k2 k3 k5 newId))
    (hq : R (.ok (.ret (.ref (h.objs.size + 1)))) ⟨(h.push (PySem.W.kdv_tup [])).push (excO C h.objs.size), g, d, t, os⟩) :
    codeAny (model prog w) A (.builtin newId ⟨[.ref C], [(n, v)]⟩) R ⟨h, g, d, t, os⟩ := by
  have hends := F.ends
  have hcB : (Value.ref C :: bm).contains (.type B) = true := by rw [List.contains_cons, hT, F.hasB, Bool.or_true]
  have hcA : (Value.ref C :: bm).contains (.type "AttributeError") = false := by rw [List.contains_cons, hT, F.noAttr]; rfl
  have hcN : (Value.ref C :: bm).contains (.type "NameError") = false := by rw [List.contains_cons, hT, F.noName]; rfl
  refine codeAny_builtinAt F.entry ?_
  unfold Builtin.«BaseException.__new__»
  refine PySem.wpAt_bind ?_
  show PySem.wpAt _ _ _ (stack >>= _) _ _ _
  refine PySem.wpAt_bind (PySem.wpAt_stack fun p below => PySem.wpAt_of_wpAny ?_)
  wp_walk
  refine PySem.wpAt_of_wpAny ?_
  rw [F.owner]
  repeat (first | with_reducible refine wpAny_madeHere_exc F.canon hC ?_ | with_reducible refine wpAny_loadPart_at hC ?_ | (with_reducible refine wpAny_isSubtype_exc hC ?_; first | rw [hcB] | rw [hcA] | rw [hcN]) | wp_step)
  show R _ _
  rw [Heap.size_push]
  exact hq
theorem type_call_ownK (F : ExcBaseFacts B newId initId bmB) (hT : ∀ X : String, bm.contains (.type X) = bmB.contains (.type X)) {n : Str} {v : Value} {fI : Addr} {Q : Fin → Shared → Prop}
    (hC : h.get? C = some (excClassObj nm q C N bs bm hdct sn sub ab col dd k0 k1 k2 k3 k5 newId))
    (hi : Looks (model prog w) h (typeLookup (.ref C) "__init__") (some (.ref fI))) (hb : ∀ self, Looks (model prog w) h (bindSpecial (.ref fI) self) (.ref fI, [self]))
    (hq : codeAny (model prog w) A (.call (.ref fI) ⟨[.ref (h.objs.size + 1)], [(n, v)]⟩)
      (fun r s' => match r with | .ok (.ret v) => v = .none ∧ Q (.done (.ret (.ref (h.objs.size + 1)))) s' | .ok _ => False | .error e => E e s')
      ⟨(h.push (PySem.W.kdv_tup [])).push (excO C h.objs.size), g, d, t, os⟩) :
    wpAny (model prog w) A (Builtin.«type.__call__» ⟨[.ref C], [(n, v)]⟩) Q E ⟨h, g, d, t, os⟩ := by
  repeat (first | with_reducible refine wpAny_loadPart_at hC ?_ | with_reducible refine wpAny_madeBy_exc hC ?_ | wp_step)
  refine codeAny_call_builtin_code (Code.quiet_builtin _ F.quiet) (check_newK F hT hC ?_)
  refine new_ownK F hT hC ?_
  show wpAny _ _ _ _ _ _
  have k : ∀ b o, h.get? b = some o → ((h.push (PySem.W.kdv_tup [])).push (excO C h.objs.size)).get? b = some o := fun b o e => Heap.get?_push_of_some _ (Heap.get?_push_of_some _ e)
  have hC₁ := k _ _ hC
  have hget : ((h.push (PySem.W.kdv_tup [])).push (excO C h.objs.size)).get? (h.objs.size + 1) = some (excO C h.objs.size) := by heap_get
  have hcC : (Value.ref C :: bm).contains (.ref C) = true := by simp
  have i1 := hi.keeps k
  have b1 := (hb (.ref (h.objs.size + 1))).keeps k
  unfold isInstance
  repeat (first | with_reducible refine wpAny_loadPart_at hget ?_ | (with_reducible refine wpAny_isSubtype_exc hC₁ ?_; rw [hcC]) | wp_step)
  show wpAny _ _ (typeLookup (.ref C) _) _ _ _
  refine i1.at ?_
  refine wpAny_holding (wpAny_bind (b1.at ?_))
  refine wpAny_bind (wpAny_call (codeAny_mono hq fun r s' z => ?_))
  rcases r with e | (v | _ | _ | _) <;> first | exact z | exact z.elim | skip
  obtain ⟨rfl, z⟩ := z
  first
    | exact wpAny_pure (wpAny_pure z)
    | (wp_walk; exact z)
theorem call_ownK (F : ExcBaseFacts B newId initId bmB) (hT : ∀ X : String, bm.contains (.type X) = bmB.contains (.type X)) {n : Str} {v : Value} {fI : Addr}
    (hC : h.get? C = some (excClassObj nm q C N bs bm hdct sn sub ab col dd k0 k1 k2 k3 k5 newId))
    (hi : Looks (model prog w) h (typeLookup (.ref C) "__init__") (some (.ref fI))) (hb : ∀ self, Looks (model prog w) h (bindSpecial (.ref fI) self) (.ref fI, [self]))
    (hq : codeAny (model prog w) (A.under (.builtin "type.__call__" ⟨[.ref C], [(n, v)]⟩)) (.call (.ref fI) ⟨[.ref (h.objs.size + 1)], [(n, v)]⟩) (PySem.W.InitBack (h.objs.size + 1) R)
      ⟨(h.push (PySem.W.kdv_tup [])).push (excO C h.objs.size), g, d, t, os⟩) :
    codeAny (model prog w) A (.call (.ref C) ⟨[], [(n, v)]⟩) R ⟨h, g, d, t, os⟩ := by
  have f1 := tc_lookup
  have f2 := tc_bind (.ref C)
  have hTy : (⟨h, g, d, t, os⟩ : Shared).TypeIs (.ref C) "type" := ⟨_, hC, rfl⟩
  refine codeAny_of_tree ?_
  show wpAny _ _ (callAny (.ref C) _) _ _ _
  repeat (any_goals (first | assumption | with_reducible refine wpAny_loadPart_at hC ?_ | wp_step))
  refine ⟨rfl, ?_⟩
  refine codeAny_call_builtin_at (Code.quiet_builtin _ (by decide +kernel)) entry_typeCall (wpAny_check_type_call_sub hC (type_call_ownK F hT hC hi hb ?_))
  refine codeAny_mono hq fun r s' z => ?_
  rcases r with e | (v | _ | _ | _) <;> exact z
end
end
/-! ### C(e), C(f = e) as a value, C an own exception class with an own __init__ -/
/-- C(e, ..), the object stays -/
def tMkV (C : Addr) (sp : Sp) (ta : TA) : TE := fun σ H Q => ta σ H fun vs H1 => vs.length ≤ 1000 ∧ ∀ a, H1 a = none → sp (.ref a :: vs) (upd H1 a (exo a C none)) (fun v H2 => v = .non ∧ Q (.ref a) H2) (fun _ _ _ => False)
section
variable {X : Cx} {CX : CXT} {x f : Str} {C fI : Addr} {k : Nat} {fd : FuncData} {ps : List Str} {sp : Sp} {e : Expr} {es : List Expr} {ta : TA} {p pos : Pos}
/-- the object laid, before __init__ -/
theorem laid_exo {pins : List (Addr × Obj)} {σ : L2.St} {H : Hp} {hp : Heap} {g : Array GenState} {dr : Drawn} {tk : Nat} {os : OsState} {us : List Value} (I : Inv X pins σ H ⟨hp, g, dr, tk, os⟩) :
    Inv X pins σ (upd H (hp.objs.size + 1) (exo (hp.objs.size + 1) C none)) ⟨(hp.push (PySem.W.kdv_tup us)).push (PySem.HandSPX.excO C hp.objs.size), g, dr, tk, os⟩ := by
  have kk : ∀ b o, hp.get? b = some o → ((hp.push (PySem.W.kdv_tup us)).push (PySem.HandSPX.excO C hp.objs.size)).get? b = some o := fun b o e => Heap.get?_push_of_some _ (Heap.get?_push_of_some _ e)
  have hget : ((hp.push (PySem.W.kdv_tup us)).push (PySem.HandSPX.excO C hp.objs.size)).get? (hp.objs.size + 1) = some (PySem.HandSPX.excO C hp.objs.size) := by heap_get
  exact I.laid (t' := tk) (a := hp.objs.size + 1) (o := exo (hp.objs.size + 1) C none) (h' := (hp.push (PySem.W.kdv_tup us)).push (PySem.HandSPX.excO C hp.objs.size)) kk (Nat.le_succ _) (exo_ok hget)
theorem pe_oexV (T : OexC X.K C) (iC : PySem.W.findIn X.K (.ref C) "__init__" = some (some (.ref fI))) (tI : PySem.W.typeIn X.K (.ref fI) = some (.type "function"))
    (F1 : FnOk X.prog X.w X.K X.mg X.base CX k fI fd ps sp) (hr : Room (k + 1) X.A) (hb : Binds X.K fd ps []) (hx : Passes CX X (fun _ _ _ => False)) (hg : Gl X x) (hm : X.mg x = some (.ref C)) (ha : PA X (e :: es) ta)
    (hdb : (x == ("__debug__" : Str)) = false := by decide) (he : starEach (e :: es) X.env = (false, eval e X.env) :: starEach es X.env := by rfl) (hpl : (backTo pos (starEach es X.env)).any (·.1) = false := by rfl) :
    PE X (.Call (.Name x p) (e :: es) [] pos) (tMkV C sp ta) := by
  refine ⟨fun pins s σ H Q I h => ?_⟩
  obtain ⟨nm, q, N, bs, bm, sn, sub, ab, col, dd, k0, k1, k2, k3, k5, hC, hbm⟩ := T.cls
  refine wpAny_Call_Name_kw (ld_glob I hg hm ?_ hdb)
  refine PySem.W.callWith_K (h₀ := X.base) I.ok.mod.kin T.kC (thn (ha.run pos pins s σ H _ I h) fun us s1 ⟨vs, H1, I1, r1, hz, q1⟩ => ⟨I1.kIn, ?_⟩) he hpl
  show wpAny _ _ (call (.ref C) us) _ _ _
  obtain ⟨hp, g, dr, tk, os⟩ := s1
  have hn : H1 (hp.objs.size + 1) = none := I1.hok.fresh (Nat.le_succ _)
  have hq := q1 (hp.objs.size + 1) hn
  have I2 := laid_exo (C := C) (us := us) I1
  have r2 : Vals (V.ref (hp.objs.size + 1) :: vs) (Value.ref (hp.objs.size + 1) :: us) := .cons rfl r1
  have hl : (Value.ref (hp.objs.size + 1) :: us).length = ps.length := by
    have e := r2.length
    rw [F1.len _ _ _ _ hq] at e
    exact e.symm
  have hus : us.length ≤ sizeLine := by
    rw [← Paired.length r1, sizeLine_eq]
    omega
  have bd := hb _ (Value.ref (hp.objs.size + 1) :: us) I2.kIn (by rw [List.append_nil]; exact hl)
  rw [List.append_nil] at bd
  refine wpAny_call (PySem.HandSPX.call_own F.excBase_ValueError (fun Y => PySem.HandSPX.refsVE_contains Y bm hbm) (I1.kIn _ _ hC) (PySem.W.looks_findIn I1.kIn iC) (fun self => PySem.W.bind_fn I1.kIn self tI) hus
    (codeAny_mono (F1.run _ X.stack _ _ ⟨Value.ref (hp.objs.size + 1) :: us, []⟩ (Value.ref (hp.objs.size + 1) :: us) _ _ (fun _ _ _ => False) (hr.make C us []) (I2.env0.make C us []) bd r2 hq) fun r s' hq' => ?_))
  cases r with
  | error er => exact hx pins σ _ _ er s' I2 hq'
  | ok fl =>
    cases fl with
    | ret u =>
      obtain ⟨v, H2, os2, bare2, un2, hok2, rv, ev, q2⟩ := hq'
      subst ev
      obtain ⟨h2, g2, d2, t2, os'⟩ := s'
      exact ⟨rv, V.ref (hp.objs.size + 1), H2, I2.call' (ch := []) os2 un2 hok2 bare2 (fun b z => absurd z (by simp)), rfl, q2⟩
    | next => exact False.elim hq'
    | brk => exact False.elim hq'
    | cont => exact False.elim hq'
end
/-- C(f = e) -/
def tMkVK (C : Addr) (sp : Sp) (tk : TA) : TE := fun σ H Q => tk σ H fun zs H1 => ∃ y, zs = [y] ∧ ∀ a, H1 a = none → sp [.ref a, y] (upd H1 a (exo a C none)) (fun v H2 => v = .non ∧ Q (.ref a) H2) (fun _ _ _ => False)
section
variable {X : Cx} {CX : CXT} {x f : Str} {C fI : Addr} {k : Nat} {fd : FuncData} {ps : List Str} {sp : Sp} {kws : List Keyword} {tk : TA} {p pos : Pos}
theorem pe_oexVK (T : OexC X.K C) (iC : PySem.W.findIn X.K (.ref C) "__init__" = some (some (.ref fI))) (tI : PySem.W.typeIn X.K (.ref fI) = some (.type "function"))
    (F1 : FnOk X.prog X.w X.K X.mg X.base CX k fI fd ps sp) (hr : Room (k + 1) X.A) (hb : ∀ (s : Shared) (a b : Value), BindsTo s fd ⟨[a], [(f, b)]⟩ (ps.zip [a, b])) (hx : Passes CX X (fun _ _ _ => False)) (hg : Gl X x) (hm : X.mg x = some (.ref C)) (hkw : PK X kws tk)
    (hall : (backToKw pos (keywordEach kws X.env)).all (·.1.isSome) = true := by rfl) (hks : (backToKw pos (keywordEach kws X.env)).filterMap (·.1) = [f] := by rfl) (hdb : (x == ("__debug__" : Str)) = false := by decide)
    (hpl : ((backTo pos (starEach [] X.env)).any (·.1) || (backToKw pos (keywordEach kws X.env)).any (·.1.isNone)) = false := by rfl) :
    PE X (.Call (.Name x p) [] kws pos) (tMkVK C sp tk) := by
  refine ⟨fun pins s σ H Q I h => ?_⟩
  obtain ⟨nm, q, N, bs, bm, sn, sub, ab, col, dd, k0, k1, k2, k3, k5, hC, hbm⟩ := T.cls
  refine wpAny_Call_Name_kw (ld_glob I hg hm ?_ hdb)
  refine PySem.W.callWith_KW0 (h₀ := X.base) I.ok.mod.kin T.kC hall ?_ hpl
  refine thn (hkw.run pos pins s σ H _ I h) fun ws s2 ⟨zs, H1, I1, rz, y, ez, q1⟩ => ⟨I1.kIn, ?_⟩
  rw [hks]
  subst ez
  cases rz with
  | @cons _ u _ ur ru rr =>
  cases rr
  show wpAny _ _ (call (.ref C) [] [(f, u)]) _ _ _
  obtain ⟨hp, g, dr, tk, os⟩ := s2
  have hn : H1 (hp.objs.size + 1) = none := I1.hok.fresh (Nat.le_succ _)
  have hq := q1 (hp.objs.size + 1) hn
  have I2 := laid_exo (C := C) (us := []) I1
  have r2 : Vals [V.ref (hp.objs.size + 1), y] [Value.ref (hp.objs.size + 1), u] := .cons rfl (.cons ru .nil)
  refine wpAny_call (call_ownK F.excBase_ValueError (fun Y => PySem.HandSPX.refsVE_contains Y bm hbm) (I1.kIn _ _ hC) (PySem.W.looks_findIn I1.kIn iC) (fun self => PySem.W.bind_fn I1.kIn self tI)
    (codeAny_mono (F1.run _ X.stack _ _ ⟨[Value.ref (hp.objs.size + 1)], [(f, u)]⟩ [Value.ref (hp.objs.size + 1), u] _ _ (fun _ _ _ => False) (hr.make C [] [(f, u)]) (I2.env0.make C [] [(f, u)]) (hb _ _ _) r2 hq) fun r s' hq' => ?_))
  cases r with
  | error er => exact hx pins σ _ _ er s' I2 hq'
  | ok fl =>
    cases fl with
    | ret u =>
      obtain ⟨v, H2, os2, bare2, un2, hok2, rv, ev, q2⟩ := hq'
      subst ev
      obtain ⟨h2, g2, d2, t2, os'⟩ := s'
      exact ⟨rv, V.ref (hp.objs.size + 1), H2, I2.call' (ch := []) os2 un2 hok2 bare2 (fun b z => absurd z (by simp)), rfl, q2⟩
    | next => exact False.elim hq'
    | brk => exact False.elim hq'
    | cont => exact False.elim hq'
end
/-! ### exceptions as values: isinstance, a field -/
/-- an exception of the class D stands at a -/
def ExAny (H : Hp) (a D : Addr) : Prop := H a = some (ExO (.ref D) a) ∨ ∃ d fs, H a = some (exo a D (some d)) ∧ H d = some (exd d fs)
theorem ExAny.same {H H' : Hp} {a D : Addr} (h : ExAny H a D) (s : Same H H') : ExAny H' a D := by
  rcases h with h | ⟨d, fs, h1, h2⟩
  · exact .inl (s _ _ h)
  · exact .inr ⟨d, fs, s _ _ h1, s _ _ h2⟩
theorem exd_inst {X : Cx} {pins : List (Addr × Obj)} {σ : L2.St} {H : Hp} {s : Shared} {a D d : Addr} {fs : List (Str × V)} (I : Inv X pins σ H s) (ha : H a = some (exo a D (some d))) (hd : H d = some (exd d fs)) :
    ∃ oe od, PySem.W.InstAt s.heap a oe D (some od) ∧ ∃ mA : Str → Option Value, (∀ n, PySem.W.lookIn n od = some (mA n)) ∧ ∀ f, RelO (fs.lookup f) (mA f) := by
  obtain ⟨t1, ho⟩ := exo_at I.hok ha
  obtain ⟨mA, hns, hr⟩ := exd_at I.hok hd
  obtain ⟨od, ho2, hl⟩ := lookIn_ns hns
  exact ⟨_, od, ⟨ho, rfl, rfl, ho2⟩, mA, hl, hr⟩
theorem ExAny.inst {X : Cx} {pins : List (Addr × Obj)} {σ : L2.St} {H : Hp} {s : Shared} {a D : Addr} (I : Inv X pins σ H s) (h : ExAny H a D) : ∃ oe od, PySem.W.InstAt s.heap a oe D od := by
  rcases h with h | ⟨d, fs, h1, h2⟩
  · obtain ⟨⟨oe, vs, g1, z1, d1, _⟩, _⟩ := (show ObjOk X.prog X.w H s.heap a (ExO (.ref D) a) from I.hok a _ h)
    refine ⟨oe, none, ?_⟩
    obtain ⟨oc, od, oda, osl⟩ := oe
    obtain ⟨e1, e2⟩ := z1
    dsimp only at e1 e2 d1
    subst e1 e2 d1
    exact ⟨g1, rfl, rfl, trivial⟩
  · obtain ⟨oe, od, J, _⟩ := exd_inst I h1 h2
    exact ⟨oe, _, J⟩
def rIsV (K : PySem.W.Frag) : List V → Hp → VK → Prop := fun xs H Q => ∃ (a D : Addr) (c : V) (u : Value) (b : Bool), xs = [.ref a, c] ∧ ExAny H a D ∧ ExcC K D ∧ ClsV c u ∧ PySem.W.kitOne K (.ref D) u = some b ∧ Q (.bl b) H
theorem call_isV {X : Cx} : CallR X (.builtin "isinstance") (rIsV X.K) := by
  intro pins s σ H xs us Q I r h
  obtain ⟨a, D, c, u, b, rfl, ha, C, k, e, q⟩ := h
  obtain ⟨u1, u2, rfl, r1, r2⟩ := vals2 r
  have e2 := k.eq r2
  subst e2
  cases (show u1 = Value.ref a from r1)
  obtain ⟨oe, od, J⟩ := ha.inst I
  exact PySem.W.kia_one (kitx_excD C) I.kIn J e (fun z => nomatch z) fun tk => ⟨.bl b, H, I.tok tk, rfl, q⟩
/-- e.n, e such an exception -/
def tXfV (K : PySem.W.Frag) (n : Str) (te : TE) : TE := fun σ H Q => te σ H fun x H1 => ∃ (a C d : Addr) (fs : List (Str × V)) (v : V), x = .ref a ∧ H1 a = some (exo a C (some d)) ∧ H1 d = some (exd d fs) ∧ XfC K C ∧ PySem.W.findIn K (.ref C) n = some none ∧ fs.lookup n = some v ∧ Q v H1
theorem pe_xfV {X : Cx} {e : Expr} {te : TE} {pos : Pos} {n : Str} (he : PE X e te) (hb : attributeBase e n X.env (eval e X.env) = eval e X.env := by rfl) : PE X (.Attribute e n pos) (tXfV X.K n te) := by
  refine ⟨fun pins s σ H Q I h => ?_⟩
  refine attr_of hb (thn (he.run pins s σ H _ I h) fun u s1 hh => ?_)
  obtain ⟨x, H1, I1, rx, a, C, d, fs, v, ex, ea, ed, T, hno, l, q⟩ := hh
  subst ex
  obtain rfl : u = Value.ref a := rx
  obtain ⟨oe, od, J, mA, hl, hr⟩ := exd_inst I1 ea ed
  obtain ⟨u, hu, ru⟩ := RelO.some_of (v := v) (o := mA n) (by rw [← l]; exact hr n)
  exact HandSPX.exc_get I1.kIn J T.ga T.gg T.exC (PySem.W.findObj_own T.hdC hno rfl (by rw [hl, hu])) (handed_of ru) ⟨v, H1, I1.tok _, ru, q⟩

theorem str_app_len (a b : Str) : (a ++ b).length = a.length + b.length := Str.length_append a b
abbrev sQ : Stmt := inClass (top 2) 0
abbrev sQ2 : Stmt := inClass (top 3) 0
theorem scQ : ScS ["self", "line"] (defScope sQ) := ⟨rfl, rfl, rfl, by decide +kernel, by decide +kernel, by decide +kernel, by decide +kernel, by decide +kernel, by decide +kernel⟩
theorem scQ2 : ScS ["self", "leaf"] (defScope sQ2) := ⟨rfl, rfl, rfl, by decide +kernel, by decide +kernel, by decide +kernel, by decide +kernel, by decide +kernel, by decide +kernel⟩
def spExS (C : Addr) (f : Str) : Sp := fun vs H Q _ => ∃ (a : Addr) (y : Str), vs = [.ref a, .str y] ∧ y.length ≤ 900 ∧ H a = some (exo a C none) ∧ ∀ d, H d = none → d ≠ a → Q .non (upd (upd H d (exd d [(f, .str y)])) a (exo a C (some d)))
section
variable {P : Program} {w : World} {K : PySem.W.Frag} {mg : Str → Option Value} {base : Heap}
set_option maxHeartbeats 8000000 in
theorem ok_perr {f C : Addr} {fd : FuncData} {k : Nat} {file : Str} (FS : FunS K file "__init__" "ParseError.__init__" sQ f C fd) (T : OexC K C) (hsub : PySem.W.mroIn K C (.ref C) = some true) (hm : PySem.W.ks_superIn K C C "__init__" = some (some (.builtin "ValueError.__init__"))) (hB : PySem.W.subIn K (.ref C) (.type "ValueError") = some true)
    (hop : PySem.W.nsIn K cStatics "thirdparty.any" = some none) (hsu : mg "super" = none) (hfile : ((P.main.file : Str) == file) = true) (htop : (P.main.scope.names.lookup ("super" : Str)).isSome = false) (hno : PySem.W.findIn K (.ref C) "line" = some none) :
    FnOk P w K mg base CX0 (k + 1) f fd ["self", "line"] (spExI C "line") := by
  refine ok_esuper (self := "self") FS scQ T hsub hm hB hop hsu hfile htop rfl ⟨_, rfl, rfl⟩ rfl (fun _ => ⟨_, rfl⟩) (fun _ => rfl) (fun _ => rfl) (fun _ => rfl) (fun vs H Q E h => ?_) (fun h => h) (fun A cda cc outer s H vs Q hr h => ?_)
  · obtain ⟨a, n, rfl, _⟩ := h
    rfl
  · obtain ⟨a, n, rfl, n1, n2, ha, q⟩ := h
    refine ⟨a, _, _, rfl, ha, pa_cons (pe_joined (.cons pe_str (.cons (pe_fmt (pv 1)) (.cons pe_str .nil)))) pa_nil, pss_one (ps_ost (pv 0) (pv 1)), ?_⟩
    have e1 : (Str.length (Str.empty ++ "line " : Str)) = 5 := by decide +kernel
    have e2 : (Str.length (" is wrong" : Str)) = 9 := by decide +kernel
    refine ⟨"line ", rfl, by rw [e1]; exact big_of (by omega), .int n, rfl, .inr ⟨n, rfl, n1, toString n, rfl, ?_, " is wrong", rfl, ?_, by show 1 ≤ 1000; decide, ha, ?_⟩⟩
    · rw [str_app_len, e1]
      exact big_of (by omega)
    · rw [str_app_len, str_app_len, e1, e2]
      exact big_of (by omega)
    · exact ⟨.int n, rfl, .ref a, rfl, a, C, rfl, T, hno, .inl ⟨ha, fun dx nd ne => q dx nd ne⟩⟩
set_option maxHeartbeats 8000000 in
theorem ok_nsol {f C : Addr} {fd : FuncData} {k : Nat} {file : Str} (FS : FunS K file "__init__" "NoSolution.__init__" sQ2 f C fd) (T : OexC K C) (hsub : PySem.W.mroIn K C (.ref C) = some true) (hm : PySem.W.ks_superIn K C C "__init__" = some (some (.builtin "ValueError.__init__"))) (hB : PySem.W.subIn K (.ref C) (.type "ValueError") = some true)
    (hop : PySem.W.nsIn K cStatics "thirdparty.any" = some none) (hsu : mg "super" = none) (hfile : ((P.main.file : Str) == file) = true) (htop : (P.main.scope.names.lookup ("super" : Str)).isSome = false) (hno : PySem.W.findIn K (.ref C) "leaf" = some none) :
    FnOk P w K mg base CX0 (k + 1) f fd ["self", "leaf"] (spExS C "leaf") := by
  refine ok_esuper (self := "self") FS scQ2 T hsub hm hB hop hsu hfile htop rfl ⟨_, rfl, rfl⟩ rfl (fun _ => ⟨_, rfl⟩) (fun _ => rfl) (fun _ => rfl) (fun _ => rfl) (fun vs H Q E h => ?_) (fun h => h) (fun A cda cc outer s H vs Q hr h => ?_)
  · obtain ⟨a, n, rfl, _⟩ := h
    rfl
  · obtain ⟨a, y, rfl, yl, ha, q⟩ := h
    refine ⟨a, _, _, rfl, ha, pa_cons (pe_joined (.cons pe_str (.cons (pe_fmt (pv 1)) (.cons pe_str .nil)))) pa_nil, pss_one (ps_ost (pv 0) (pv 1)), ?_⟩
    have e1 : (Str.length (Str.empty ++ "the leaf '" : Str)) = 10 := by decide +kernel
    have e2 : (Str.length ("' is an obstacle" : Str)) = 16 := by decide +kernel
    refine ⟨"the leaf '", rfl, by rw [e1]; exact big_of (by omega), .str y, rfl, .inl ⟨y, rfl, big_of (by omega), y, rfl, ?_, "' is an obstacle", rfl, ?_, by show 1 ≤ 1000; decide, ha, ?_⟩⟩
    · rw [str_app_len, e1]
      exact big_of (by omega)
    · rw [str_app_len, str_app_len, e1, e2]
      exact big_of (by omega)
    · exact ⟨.str y, rfl, .ref a, rfl, a, C, rfl, T, hno, .inl ⟨ha, fun dx nd ne => q dx nd ne⟩⟩
end

/-- the classes in their order: each is of its own kind alone -/
def KindsOf (K : PySem.W.Frag) (D : Addr) (cs : List Addr) (bs : List Bool) : Prop := Paired (fun c b => PySem.W.kitOne K (.ref D) (.ref c) = some b) cs bs
def spKinds (K : PySem.W.Frag) (CPE CNS CIM CIX CUR CIA CIP CIQ CUL CUV CNU CIN CDN CUN CUM CIC CIL CPF : Addr) : Sp := fun vs H Q _ => ∃ (a D : Addr) (bs : List Bool), vs = [.ref a] ∧ ExAny H a D ∧ ExcC K D ∧ KindsOf K D [CPE, CNS, CIM, CIX, CUR, CIA, CIP, CIQ, CUL, CUV, CNU, CIN, CDN, CUN, CUM, CIC, CIL, CPF] bs ∧ ∀ l H', Same H H' → H' l = some (.lst (bs.map V.bl)) → Q (.ref l) H'
abbrev sKn : Stmt := top 24
section
variable {P : Program} {w : World} {K : PySem.W.Frag} {mg : Str → Option Value} {base : Heap}
abbrev NKn : List Str := ["error", "found"]
theorem scKn : FnScope NKn ["error"] (defScope sKn) := ⟨rfl, rfl, rfl, by decide +kernel, rfl, by decide +kernel, by decide +kernel⟩
set_option maxHeartbeats 8000000 in
theorem ok_Kn {f CPE CNS CIM CIX CUR CIA CIP CIQ CUL CUV CNU CIN CDN CUN CUM CIC CIL CPF : Addr} {fd : FuncData} {k : Nat} (F : Fun K "_law_kinds" "_law_kinds" sKn f fd)
    (gPE : mg "ParseError" = some (.ref CPE))
    (m_isinstance : mg "isinstance" = none)
    (gNS : mg "NoSolution" = some (.ref CNS))
    (EIM : ExF K CIM) (gIM : mg "InvalidMap" = some (.ref CIM))
    (EIX : ExF K CIX) (gIX : mg "InvalidPrefix" = some (.ref CIX))
    (EUR : ExF K CUR) (gUR : mg "UnknownRow" = some (.ref CUR))
    (EIA : ExF K CIA) (gIA : mg "InvalidAddress" = some (.ref CIA))
    (EIP : ExF K CIP) (gIP : mg "InvalidPair" = some (.ref CIP))
    (EIQ : ExF K CIQ) (gIQ : mg "InvalidPrices" = some (.ref CIQ))
    (EUL : ExF K CUL) (gUL : mg "UnknownLeaf" = some (.ref CUL))
    (EUV : ExF K CUV) (gUV : mg "UnknownVersion" = some (.ref CUV))
    (ENU : ExF K CNU) (gNU : mg "NothingToUndo" = some (.ref CNU))
    (EIN : ExF K CIN) (gIN : mg "InvalidName" = some (.ref CIN))
    (EDN : ExF K CDN) (gDN : mg "DuplicateName" = some (.ref CDN))
    (EUN : ExF K CUN) (gUN : mg "UnknownName" = some (.ref CUN))
    (EUM : ExF K CUM) (gUM : mg "UnknownMark" = some (.ref CUM))
    (EIC : ExF K CIC) (gIC : mg "InvalidCommand" = some (.ref CIC))
    (EIL : ExF K CIL) (gIL : mg "InvalidLine" = some (.ref CIL))
    (EPF : ExF K CPF) (gPF : mg "PlanFinished" = some (.ref CPF))
    : FnOk P w K mg base CX0 (k + 1) f fd ["error"] ((spKinds K CPE CNS CIM CIX CUR CIA CIP CIQ CUL CUV CNU CIN CDN CUN CUM CIC CIL CPF)) := by
  refine F.ok scKn (fun vs H Q E h => ?_) (fun cdv A outer s H vs Q E hr h => ?_)
  · obtain ⟨a, D, bs, rfl, _⟩ := h
    rfl
  · obtain ⟨a, D, bs, rfl, ha, EC, hk, q⟩ := h
    have nd := scKn.nd
    have hu := hr.units
    have hu1 := hu_of hr
    have hr1 := hr
    refine ⟨_, pss_cons (ps_set (i := 1) nd rfl (.inl rfl) (pe_lst (pa_cons (pe_callB call_isV (by rfl) m_isinstance (by decide +kernel) (pa_cons (pv 0) (pa_cons (pe_glob (v := .ref CPE) rfl gPE rfl) pa_nil))) (pa_cons (pe_callB call_isV (by rfl) m_isinstance (by decide +kernel) (pa_cons (pv 0) (pa_cons (pe_glob (v := .ref CNS) rfl gNS rfl) pa_nil))) (pa_cons (pe_callB call_isV (by rfl) m_isinstance (by decide +kernel) (pa_cons (pv 0) (pa_cons (pe_glob (v := .ref CIM) rfl gIM rfl) pa_nil))) pa_nil)))))
      (pss_cons (ps_set (i := 1) nd rfl (.inl rfl) (pe_op op_cat (pv 1) (pe_lst (pa_cons (pe_callB call_isV (by rfl) m_isinstance (by decide +kernel) (pa_cons (pv 0) (pa_cons (pe_glob (v := .ref CIX) rfl gIX rfl) pa_nil))) (pa_cons (pe_callB call_isV (by rfl) m_isinstance (by decide +kernel) (pa_cons (pv 0) (pa_cons (pe_glob (v := .ref CUR) rfl gUR rfl) pa_nil))) pa_nil)))))
      (pss_cons (ps_set (i := 1) nd rfl (.inl rfl) (pe_op op_cat (pv 1) (pe_lst (pa_cons (pe_callB call_isV (by rfl) m_isinstance (by decide +kernel) (pa_cons (pv 0) (pa_cons (pe_glob (v := .ref CIA) rfl gIA rfl) pa_nil))) (pa_cons (pe_callB call_isV (by rfl) m_isinstance (by decide +kernel) (pa_cons (pv 0) (pa_cons (pe_glob (v := .ref CIP) rfl gIP rfl) pa_nil))) pa_nil)))))
      (pss_cons (ps_set (i := 1) nd rfl (.inl rfl) (pe_op op_cat (pv 1) (pe_lst (pa_cons (pe_callB call_isV (by rfl) m_isinstance (by decide +kernel) (pa_cons (pv 0) (pa_cons (pe_glob (v := .ref CIQ) rfl gIQ rfl) pa_nil))) (pa_cons (pe_callB call_isV (by rfl) m_isinstance (by decide +kernel) (pa_cons (pv 0) (pa_cons (pe_glob (v := .ref CUL) rfl gUL rfl) pa_nil))) pa_nil)))))
      (pss_cons (ps_set (i := 1) nd rfl (.inl rfl) (pe_op op_cat (pv 1) (pe_lst (pa_cons (pe_callB call_isV (by rfl) m_isinstance (by decide +kernel) (pa_cons (pv 0) (pa_cons (pe_glob (v := .ref CUV) rfl gUV rfl) pa_nil))) (pa_cons (pe_callB call_isV (by rfl) m_isinstance (by decide +kernel) (pa_cons (pv 0) (pa_cons (pe_glob (v := .ref CNU) rfl gNU rfl) pa_nil))) pa_nil)))))
      (pss_cons (ps_set (i := 1) nd rfl (.inl rfl) (pe_op op_cat (pv 1) (pe_lst (pa_cons (pe_callB call_isV (by rfl) m_isinstance (by decide +kernel) (pa_cons (pv 0) (pa_cons (pe_glob (v := .ref CIN) rfl gIN rfl) pa_nil))) (pa_cons (pe_callB call_isV (by rfl) m_isinstance (by decide +kernel) (pa_cons (pv 0) (pa_cons (pe_glob (v := .ref CDN) rfl gDN rfl) pa_nil))) pa_nil)))))
      (pss_cons (ps_set (i := 1) nd rfl (.inl rfl) (pe_op op_cat (pv 1) (pe_lst (pa_cons (pe_callB call_isV (by rfl) m_isinstance (by decide +kernel) (pa_cons (pv 0) (pa_cons (pe_glob (v := .ref CUN) rfl gUN rfl) pa_nil))) (pa_cons (pe_callB call_isV (by rfl) m_isinstance (by decide +kernel) (pa_cons (pv 0) (pa_cons (pe_glob (v := .ref CUM) rfl gUM rfl) pa_nil))) pa_nil)))))
      (pss_cons (ps_set (i := 1) nd rfl (.inl rfl) (pe_op op_cat (pv 1) (pe_lst (pa_cons (pe_callB call_isV (by rfl) m_isinstance (by decide +kernel) (pa_cons (pv 0) (pa_cons (pe_glob (v := .ref CIC) rfl gIC rfl) pa_nil))) (pa_cons (pe_callB call_isV (by rfl) m_isinstance (by decide +kernel) (pa_cons (pv 0) (pa_cons (pe_glob (v := .ref CIL) rfl gIL rfl) pa_nil))) pa_nil)))))
      (pss_one (ps_ret (pe_op op_cat (pv 1) (pe_lst (pa_cons (pe_callB call_isV (by rfl) m_isinstance (by decide +kernel) (pa_cons (pv 0) (pa_cons (pe_glob (v := .ref CPF) rfl gPF rfl) pa_nil))) pa_nil)))))))))))), ?_⟩
    cases hk with
    | @cons _ b1 _ _ k1 hk =>
    cases hk with
    | @cons _ b2 _ _ k2 hk =>
    cases hk with
    | @cons _ b3 _ _ k3 hk =>
    cases hk with
    | @cons _ b4 _ _ k4 hk =>
    cases hk with
    | @cons _ b5 _ _ k5 hk =>
    cases hk with
    | @cons _ b6 _ _ k6 hk =>
    cases hk with
    | @cons _ b7 _ _ k7 hk =>
    cases hk with
    | @cons _ b8 _ _ k8 hk =>
    cases hk with
    | @cons _ b9 _ _ k9 hk =>
    cases hk with
    | @cons _ b10 _ _ k10 hk =>
    cases hk with
    | @cons _ b11 _ _ k11 hk =>
    cases hk with
    | @cons _ b12 _ _ k12 hk =>
    cases hk with
    | @cons _ b13 _ _ k13 hk =>
    cases hk with
    | @cons _ b14 _ _ k14 hk =>
    cases hk with
    | @cons _ b15 _ _ k15 hk =>
    cases hk with
    | @cons _ b16 _ _ k16 hk =>
    cases hk with
    | @cons _ b17 _ _ k17 hk =>
    cases hk with
    | @cons _ b18 _ _ k18 hk =>
    cases hk
    refine ⟨.ref a, rfl, a, D, .ref CPE, .ref CPE, b1, rfl, ha, EC, .own _, k1, .ref a, rfl, a, D, .ref CNS, .ref CNS, b2, rfl, ha, EC, .own _, k2, .ref a, rfl, a, D, .ref CIM, .ref CIM, b3, rfl, ha, EC, .own _, k3, by show 3 ≤ sizeLine; decide, fun L0 n0 => ?_⟩
    have s0 := same_upd (o := .lst [.bl b1, .bl b2, .bl b3]) n0
    have h0 := upd_same (H := H) (a := L0) (o := .lst [.bl b1, .bl b2, .bl b3])
    revert s0 h0
    generalize upd H L0 (.lst [.bl b1, .bl b2, .bl b3]) = H0
    intro s0 h0
    refine ⟨.ref L0, rfl, .ref a, rfl, a, D, .ref CIX, .ref CIX, b4, rfl, (ha.same s0), EC, .own _, k4, .ref a, rfl, a, D, .ref CUR, .ref CUR, b5, rfl, (ha.same s0), EC, .own _, k5, by show 2 ≤ sizeLine; decide, fun M1 m1 => ⟨L0, M1, _, _, rfl, rfl, same_upd m1 _ _ h0, upd_same, by show 5 ≤ sizeLine; decide, fun L1 n1 => ?_⟩⟩
    have s1 := s0.trans ((same_upd (o := .lst [.bl b4, .bl b5]) m1).trans (same_upd (o := .lst ([.bl b1, .bl b2, .bl b3] ++ [.bl b4, .bl b5])) n1))
    have h1 : (upd (upd H0 M1 (.lst [.bl b4, .bl b5])) L1 (.lst ([.bl b1, .bl b2, .bl b3] ++ [.bl b4, .bl b5]))) L1 = some (.lst [.bl b1, .bl b2, .bl b3, .bl b4, .bl b5]) := upd_same
    clear s0 h0 m1 n1
    revert s1 h1
    generalize upd (upd H0 M1 (.lst [.bl b4, .bl b5])) L1 (.lst ([.bl b1, .bl b2, .bl b3] ++ [.bl b4, .bl b5])) = H1
    intro s1 h1
    refine ⟨.ref L1, rfl, .ref a, rfl, a, D, .ref CIA, .ref CIA, b6, rfl, (ha.same s1), EC, .own _, k6, .ref a, rfl, a, D, .ref CIP, .ref CIP, b7, rfl, (ha.same s1), EC, .own _, k7, by show 2 ≤ sizeLine; decide, fun M2 m2 => ⟨L1, M2, _, _, rfl, rfl, same_upd m2 _ _ h1, upd_same, by show 7 ≤ sizeLine; decide, fun L2 n2 => ?_⟩⟩
    have s2 := s1.trans ((same_upd (o := .lst [.bl b6, .bl b7]) m2).trans (same_upd (o := .lst ([.bl b1, .bl b2, .bl b3, .bl b4, .bl b5] ++ [.bl b6, .bl b7])) n2))
    have h2 : (upd (upd H1 M2 (.lst [.bl b6, .bl b7])) L2 (.lst ([.bl b1, .bl b2, .bl b3, .bl b4, .bl b5] ++ [.bl b6, .bl b7]))) L2 = some (.lst [.bl b1, .bl b2, .bl b3, .bl b4, .bl b5, .bl b6, .bl b7]) := upd_same
    clear s1 h1 m2 n2
    revert s2 h2
    generalize upd (upd H1 M2 (.lst [.bl b6, .bl b7])) L2 (.lst ([.bl b1, .bl b2, .bl b3, .bl b4, .bl b5] ++ [.bl b6, .bl b7])) = H2
    intro s2 h2
    refine ⟨.ref L2, rfl, .ref a, rfl, a, D, .ref CIQ, .ref CIQ, b8, rfl, (ha.same s2), EC, .own _, k8, .ref a, rfl, a, D, .ref CUL, .ref CUL, b9, rfl, (ha.same s2), EC, .own _, k9, by show 2 ≤ sizeLine; decide, fun M3 m3 => ⟨L2, M3, _, _, rfl, rfl, same_upd m3 _ _ h2, upd_same, by show 9 ≤ sizeLine; decide, fun L3 n3 => ?_⟩⟩
    have s3 := s2.trans ((same_upd (o := .lst [.bl b8, .bl b9]) m3).trans (same_upd (o := .lst ([.bl b1, .bl b2, .bl b3, .bl b4, .bl b5, .bl b6, .bl b7] ++ [.bl b8, .bl b9])) n3))
    have h3 : (upd (upd H2 M3 (.lst [.bl b8, .bl b9])) L3 (.lst ([.bl b1, .bl b2, .bl b3, .bl b4, .bl b5, .bl b6, .bl b7] ++ [.bl b8, .bl b9]))) L3 = some (.lst [.bl b1, .bl b2, .bl b3, .bl b4, .bl b5, .bl b6, .bl b7, .bl b8, .bl b9]) := upd_same
    clear s2 h2 m3 n3
    revert s3 h3
    generalize upd (upd H2 M3 (.lst [.bl b8, .bl b9])) L3 (.lst ([.bl b1, .bl b2, .bl b3, .bl b4, .bl b5, .bl b6, .bl b7] ++ [.bl b8, .bl b9])) = H3
    intro s3 h3
    refine ⟨.ref L3, rfl, .ref a, rfl, a, D, .ref CUV, .ref CUV, b10, rfl, (ha.same s3), EC, .own _, k10, .ref a, rfl, a, D, .ref CNU, .ref CNU, b11, rfl, (ha.same s3), EC, .own _, k11, by show 2 ≤ sizeLine; decide, fun M4 m4 => ⟨L3, M4, _, _, rfl, rfl, same_upd m4 _ _ h3, upd_same, by show 11 ≤ sizeLine; decide, fun L4 n4 => ?_⟩⟩
    have s4 := s3.trans ((same_upd (o := .lst [.bl b10, .bl b11]) m4).trans (same_upd (o := .lst ([.bl b1, .bl b2, .bl b3, .bl b4, .bl b5, .bl b6, .bl b7, .bl b8, .bl b9] ++ [.bl b10, .bl b11])) n4))
    have h4 : (upd (upd H3 M4 (.lst [.bl b10, .bl b11])) L4 (.lst ([.bl b1, .bl b2, .bl b3, .bl b4, .bl b5, .bl b6, .bl b7, .bl b8, .bl b9] ++ [.bl b10, .bl b11]))) L4 = some (.lst [.bl b1, .bl b2, .bl b3, .bl b4, .bl b5, .bl b6, .bl b7, .bl b8, .bl b9, .bl b10, .bl b11]) := upd_same
    clear s3 h3 m4 n4
    revert s4 h4
    generalize upd (upd H3 M4 (.lst [.bl b10, .bl b11])) L4 (.lst ([.bl b1, .bl b2, .bl b3, .bl b4, .bl b5, .bl b6, .bl b7, .bl b8, .bl b9] ++ [.bl b10, .bl b11])) = H4
    intro s4 h4
    refine ⟨.ref L4, rfl, .ref a, rfl, a, D, .ref CIN, .ref CIN, b12, rfl, (ha.same s4), EC, .own _, k12, .ref a, rfl, a, D, .ref CDN, .ref CDN, b13, rfl, (ha.same s4), EC, .own _, k13, by show 2 ≤ sizeLine; decide, fun M5 m5 => ⟨L4, M5, _, _, rfl, rfl, same_upd m5 _ _ h4, upd_same, by show 13 ≤ sizeLine; decide, fun L5 n5 => ?_⟩⟩
    have s5 := s4.trans ((same_upd (o := .lst [.bl b12, .bl b13]) m5).trans (same_upd (o := .lst ([.bl b1, .bl b2, .bl b3, .bl b4, .bl b5, .bl b6, .bl b7, .bl b8, .bl b9, .bl b10, .bl b11] ++ [.bl b12, .bl b13])) n5))
    have h5 : (upd (upd H4 M5 (.lst [.bl b12, .bl b13])) L5 (.lst ([.bl b1, .bl b2, .bl b3, .bl b4, .bl b5, .bl b6, .bl b7, .bl b8, .bl b9, .bl b10, .bl b11] ++ [.bl b12, .bl b13]))) L5 = some (.lst [.bl b1, .bl b2, .bl b3, .bl b4, .bl b5, .bl b6, .bl b7, .bl b8, .bl b9, .bl b10, .bl b11, .bl b12, .bl b13]) := upd_same
    clear s4 h4 m5 n5
    revert s5 h5
    generalize upd (upd H4 M5 (.lst [.bl b12, .bl b13])) L5 (.lst ([.bl b1, .bl b2, .bl b3, .bl b4, .bl b5, .bl b6, .bl b7, .bl b8, .bl b9, .bl b10, .bl b11] ++ [.bl b12, .bl b13])) = H5
    intro s5 h5
    refine ⟨.ref L5, rfl, .ref a, rfl, a, D, .ref CUN, .ref CUN, b14, rfl, (ha.same s5), EC, .own _, k14, .ref a, rfl, a, D, .ref CUM, .ref CUM, b15, rfl, (ha.same s5), EC, .own _, k15, by show 2 ≤ sizeLine; decide, fun M6 m6 => ⟨L5, M6, _, _, rfl, rfl, same_upd m6 _ _ h5, upd_same, by show 15 ≤ sizeLine; decide, fun L6 n6 => ?_⟩⟩
    have s6 := s5.trans ((same_upd (o := .lst [.bl b14, .bl b15]) m6).trans (same_upd (o := .lst ([.bl b1, .bl b2, .bl b3, .bl b4, .bl b5, .bl b6, .bl b7, .bl b8, .bl b9, .bl b10, .bl b11, .bl b12, .bl b13] ++ [.bl b14, .bl b15])) n6))
    have h6 : (upd (upd H5 M6 (.lst [.bl b14, .bl b15])) L6 (.lst ([.bl b1, .bl b2, .bl b3, .bl b4, .bl b5, .bl b6, .bl b7, .bl b8, .bl b9, .bl b10, .bl b11, .bl b12, .bl b13] ++ [.bl b14, .bl b15]))) L6 = some (.lst [.bl b1, .bl b2, .bl b3, .bl b4, .bl b5, .bl b6, .bl b7, .bl b8, .bl b9, .bl b10, .bl b11, .bl b12, .bl b13, .bl b14, .bl b15]) := upd_same
    clear s5 h5 m6 n6
    revert s6 h6
    generalize upd (upd H5 M6 (.lst [.bl b14, .bl b15])) L6 (.lst ([.bl b1, .bl b2, .bl b3, .bl b4, .bl b5, .bl b6, .bl b7, .bl b8, .bl b9, .bl b10, .bl b11, .bl b12, .bl b13] ++ [.bl b14, .bl b15])) = H6
    intro s6 h6
    refine ⟨.ref L6, rfl, .ref a, rfl, a, D, .ref CIC, .ref CIC, b16, rfl, (ha.same s6), EC, .own _, k16, .ref a, rfl, a, D, .ref CIL, .ref CIL, b17, rfl, (ha.same s6), EC, .own _, k17, by show 2 ≤ sizeLine; decide, fun M7 m7 => ⟨L6, M7, _, _, rfl, rfl, same_upd m7 _ _ h6, upd_same, by show 17 ≤ sizeLine; decide, fun L7 n7 => ?_⟩⟩
    have s7 := s6.trans ((same_upd (o := .lst [.bl b16, .bl b17]) m7).trans (same_upd (o := .lst ([.bl b1, .bl b2, .bl b3, .bl b4, .bl b5, .bl b6, .bl b7, .bl b8, .bl b9, .bl b10, .bl b11, .bl b12, .bl b13, .bl b14, .bl b15] ++ [.bl b16, .bl b17])) n7))
    have h7 : (upd (upd H6 M7 (.lst [.bl b16, .bl b17])) L7 (.lst ([.bl b1, .bl b2, .bl b3, .bl b4, .bl b5, .bl b6, .bl b7, .bl b8, .bl b9, .bl b10, .bl b11, .bl b12, .bl b13, .bl b14, .bl b15] ++ [.bl b16, .bl b17]))) L7 = some (.lst [.bl b1, .bl b2, .bl b3, .bl b4, .bl b5, .bl b6, .bl b7, .bl b8, .bl b9, .bl b10, .bl b11, .bl b12, .bl b13, .bl b14, .bl b15, .bl b16, .bl b17]) := upd_same
    clear s6 h6 m7 n7
    revert s7 h7
    generalize upd (upd H6 M7 (.lst [.bl b16, .bl b17])) L7 (.lst ([.bl b1, .bl b2, .bl b3, .bl b4, .bl b5, .bl b6, .bl b7, .bl b8, .bl b9, .bl b10, .bl b11, .bl b12, .bl b13, .bl b14, .bl b15] ++ [.bl b16, .bl b17])) = H7
    intro s7 h7
    refine ⟨.ref L7, rfl, .ref a, rfl, a, D, .ref CPF, .ref CPF, b18, rfl, (ha.same s7), EC, .own _, k18, by show 1 ≤ sizeLine; decide, fun M8 m8 => ⟨L7, M8, _, _, rfl, rfl, same_upd m8 _ _ h7, upd_same, by show 18 ≤ sizeLine; decide, fun L8 n8 => ?_⟩⟩
    exact q L8 _ (s7.trans ((same_upd m8).trans (same_upd n8))) upd_same
end

theorem num_sm {d : Int} (h0 : 0 ≤ d) (h1 : d < 1000000) : d.natAbs.log2 < 1920 ∧ (Str.ofString (toString d)).length ≤ 100 := by
  have hb : d.natAbs < 10 ^ 6 := by show d.natAbs < 1000000; omega
  have e := PySem.int_text_length_le10 (k := 6) (by decide) hb
  refine ⟨?_, ?_⟩
  · by_cases hz : d.natAbs = 0
    · rw [hz]
      decide
    · exact Nat.lt_of_lt_of_le ((Nat.log2_lt hz).mpr (show d.natAbs < 2 ^ 20 by show d.natAbs < 1048576; omega)) (by decide)
  · rw [PySem.ofString_length]
    omega
theorem two_new {H : Hp} {e d C : Addr} {fs : List (Str × V)} (ne : H e = none) (nd : (upd H e (exo e C none)) d = none) (hne : d ≠ e) : upd (upd (upd H e (exo e C none)) d (exd d fs)) e (exo e C (some d)) e = some (exo e C (some d)) ∧ upd (upd (upd H e (exo e C none)) d (exd d fs)) e (exo e C (some d)) d = some (exd d fs) :=
  ⟨upd_same, by rw [upd_ne hne, upd_same]⟩
theorem same_new {H : Hp} {e d C : Addr} {fs : List (Str × V)} (ne : H e = none) (nd : (upd H e (exo e C none)) d = none) (hne : d ≠ e) : Same H (upd (upd (upd H e (exo e C none)) d (exd d fs)) e (exo e C (some d))) := fun b o eb => by
  rw [upd_ne hne] at nd
  rw [upd_ne (ne_of_none eb ne), upd_ne (ne_of_none eb nd), upd_ne (ne_of_none eb ne)]
  exact eb
theorem put_ext {H : Hp} {e L : Addr} {φ : Heap → Prop} {xs : List V} {o : HO} (h : H e = some (.ext φ)) (hl : H L = some (.lst xs)) : (upd H L o) e = some (.ext φ) := by
  rw [upd_ne (fun z => by rw [z, hl] at h; cases h)]
  exact h
theorem put_any {H : Hp} {e L D : Addr} {xs : List V} {o : HO} (h : ExAny H e D) (hl : H L = some (.lst xs)) : ExAny (upd H L o) e D := by
  rcases h with h | ⟨d, fs, h1, h2⟩
  · exact .inl (put_ext h hl)
  · exact .inr ⟨d, fs, put_ext h1 hl, put_ext h2 hl⟩
theorem prd_at {α β : Type} {R : α → β → Prop} : ∀ {xs : List α} {ys : List β} {i : Nat}, Paired R xs ys → i < xs.length → ∃ x y, xs[i]? = some x ∧ ys[i]? = some y ∧ R x y
  | _ :: _, _ :: _, 0, .cons h _, _ => ⟨_, _, rfl, rfl, h⟩
  | _ :: _, _ :: _, i + 1, .cons _ h, hi => prd_at (i := i) h (Nat.lt_of_succ_lt_succ hi)
  | [], [], i, .nil, hi => absurd hi (Nat.not_lt_zero _)
def excCB (K : PySem.W.Frag) (D : Addr) : Bool := decide (PySem.W.findIn K (.ref D) "__getattribute__" = some (some (.builtin "BaseException.__getattribute__"))) && (decide (PySem.W.findIn K (.ref D) "__getattr__" = some none) && (decide (PySem.W.subIn K (.ref D) (.type "BaseException") = some true) && (PySem.W.hasDictIn K D &&
  (decide (PySem.W.findIn K (.ref D) "__class__" = some (some (.builtin "object.__class__"))) && (decide (PySem.W.specialIn K (.builtin "object.__class__") "__get__" = some (some (.builtin "getset_descriptor.__get__"))) && (decide (PySem.W.takesIn K (.builtin "object.__class__") = some true) && decide (PySem.W.mroIn K D (.type "object") = some true)))))))
theorem excCB_ok {K : PySem.W.Frag} {D : Addr} (h : excCB K D = true) : ExcC K D := by
  obtain ⟨h1, h⟩ := Bool.and_eq_true_iff.mp h
  obtain ⟨h2, h⟩ := Bool.and_eq_true_iff.mp h
  obtain ⟨h3, h⟩ := Bool.and_eq_true_iff.mp h
  obtain ⟨h4, h⟩ := Bool.and_eq_true_iff.mp h
  obtain ⟨h5, h⟩ := Bool.and_eq_true_iff.mp h
  obtain ⟨h6, h⟩ := Bool.and_eq_true_iff.mp h
  obtain ⟨h7, h8⟩ := Bool.and_eq_true_iff.mp h
  exact ⟨of_decide_eq_true h1, of_decide_eq_true h2, of_decide_eq_true h3, h4, of_decide_eq_true h5, of_decide_eq_true h6, of_decide_eq_true h7, of_decide_eq_true h8⟩
/-- the answers of isinstance for one class of errors -/
def ansB (K : PySem.W.Frag) (D : Addr) : List Addr → List Bool → Bool
  | [], [] => true
  | c :: cs, b :: bs => decide (PySem.W.kitOne K (.ref D) (.ref c) = some b) && ansB K D cs bs
  | _, _ => false
theorem ansB_ok {K : PySem.W.Frag} {D : Addr} : ∀ {cs : List Addr} {bs : List Bool}, ansB K D cs bs = true → KindsOf K D cs bs
  | [], [], _ => .nil
  | _ :: _, _ :: _, h => .cons (of_decide_eq_true (Bool.and_eq_true_iff.mp h).1) (ansB_ok (Bool.and_eq_true_iff.mp h).2)
  | [], _ :: _, h => by cases h
  | _ :: _, [], h => by cases h
def rowB (n i : Nat) : List Bool := (List.range n).map fun j => decide (j = i)
def oneB (K : PySem.W.Frag) (re : Addr) (cs : List Addr) (i : Nat) (D : Addr) : Bool := excCB K D && (ansB K D cs (rowB 18 i) && (decide (PySem.W.kitOne K (.ref D) (.type "ValueError") = some true) && decide (PySem.W.kitOne K (.ref D) (.ref re) = some true)))
def allB (K : PySem.W.Frag) (re : Addr) (cs : List Addr) : Nat → List Addr → Bool
  | _, [] => true
  | i, D :: Ds => oneB K re cs i D && allB K re cs (i + 1) Ds
theorem lay_sm {n : Nat} {x : Str} (h : Sm n x) : PyData.canLay0 (.str x) = true := by
  simp only [PyData.canLay0]
  unfold PyData.strOk
  rw [Array.all_eq_true']
  intro c hc
  have := h.ch c (Array.mem_toList_iff.mpr hc)
  exact decide_eq_true (by omega)
theorem lay_all {ds : List PyData} (h : ∀ d ∈ ds, PyData.canLay0 d = true) : PyData.canLayAll0 ds = true := by
  induction ds with
  | nil => simp only [PyData.canLayAll0]
  | cons d ds ih =>
    simp only [PyData.canLayAll0]
    rw [h d List.mem_cons_self, ih fun x hx => h x (List.mem_cons_of_mem _ hx)]
    rfl
def prD (es : List (Str × Str)) : List PyData := es.map fun e => .tuple [.str e.1, .str e.2]
theorem row_data : ∀ i : Fin 18, SeqAt.shaped (.list ((rowB 18 i.val).map PyData.bool)) = true ∧ PyData.eqv (.list ((rowB 18 i.val).map PyData.bool)) (.list ((rowB 18 i.val).map PyData.bool)) = true := by decide +kernel
theorem dpAll_bls {K : PySem.W.Frag} {H : Hp} : ∀ xs : List Bool, DpAll K H (xs.map V.bl) (xs.map PyData.bool)
  | [] => .nil
  | x :: r => .cons (.bl x) (dpAll_bls r)
theorem note_sm {d : Int} (h0 : 0 ≤ d) (h1 : d < 1000) : Sm 20 (("note " : Str) ++ Str.ofString (toString d)) := by
  have h : ∀ k : Fin 1000, (("note " : Str) ++ Str.ofString (toString ((k.val : Nat) : Int))).length ≤ 20 ∧ ∀ c ∈ sg (("note " : Str) ++ Str.ofString (toString ((k.val : Nat) : Int))), c < 128 := by decide +kernel
  have := h ⟨d.toNat, by omega⟩
  rw [show ((d.toNat : Nat) : Int) = d by omega] at this
  exact ⟨this.1, this.2⟩
theorem held_data {nu : Int} {note : Str} (h0 : 0 ≤ nu) (h1 : nu < 1000000) (sm : Sm 20 note) : SeqAt.shaped (.list [.int nu, .str note, .int 5, .str "01"]) = true ∧ PyData.eqv (.list [.int nu, .str note, .int 5, .str "01"]) (.list [.int nu, .str note, .int 5, .str "01"]) = true := by
  constructor
  · unfold SeqAt.shaped
    rw [Bool.and_eq_true]
    refine ⟨?_, decide_eq_true ?_⟩
    · simp only [PyData.canLay0]
      refine lay_all fun d hd => ?_
      simp only [List.mem_cons, List.not_mem_nil, or_false] at hd
      rcases hd with rfl | rfl | rfl | rfl
      · rfl
      · exact lay_sm sm
      · rfl
      · exact lay_sm (n := 20) ⟨by decide +kernel, by decide +kernel⟩
    · have := depthAll_le (L := 0) (ds := [.int nu, .str note, .int 5, .str "01"]) fun d hd => by
        simp only [List.mem_cons, List.not_mem_nil, or_false] at hd
        rcases hd with rfl | rfl | rfl | rfl <;> · simp only [PyData.depth]; decide
      simp only [PyData.depth]
      omega
  · show (nu == nu && (note == note && true)) = true
    simp
structure OneC (K : PySem.W.Frag) (re : Addr) (cs : List Addr) (i : Nat) (D : Addr) : Prop where
  ec : ExcC K D
  ks : KindsOf K D cs (rowB 18 i)
  ve : PySem.W.kitOne K (.ref D) (.type "ValueError") = some true
  re : PySem.W.kitOne K (.ref D) (.ref re) = some true
theorem allB_ok {K : PySem.W.Frag} {re : Addr} {cs : List Addr} : ∀ {Ds : List Addr} {i : Nat}, allB K re cs i Ds = true → ∀ j D, Ds[j]? = some D → OneC K re cs (i + j) D
  | [], _, _, j, D, h => by cases h
  | E :: Ds, i, h, 0, D, hj => by
    obtain rfl : E = D := Option.some.inj hj
    obtain ⟨h1, h⟩ := Bool.and_eq_true_iff.mp (Bool.and_eq_true_iff.mp h).1
    obtain ⟨h2, h⟩ := Bool.and_eq_true_iff.mp h
    obtain ⟨h3, h4⟩ := Bool.and_eq_true_iff.mp h
    exact ⟨excCB_ok h1, ansB_ok h2, of_decide_eq_true h3, of_decide_eq_true h4⟩
  | E :: Ds, i, h, j + 1, D, hj => by
    have := allB_ok (i := i + 1) (Bool.and_eq_true_iff.mp h).2 j D hj
    rw [show i + (j + 1) = i + 1 + j by omega]
    exact this
def spLaw (K : PySem.W.Frag) : Sp := fun vs H Q _ => ∃ (a : Addr) (ns : List Int), vs = [.ref a] ∧ SqL K H a (ns.map V.int) ∧ ns.length ≤ 63 ∧ ∀ H', Q (.bl true) H'
abbrev sL : Stmt := top 25
section
variable {P : Program} {w : World} {K : PySem.W.Frag} {mg : Str → Option Value} {base : Heap}
abbrev NL : List Str := ["script", "pen", "number", "note", "errors", "k", "j", "held"]
theorem scL : FnScope NL ["script"] (defScope sL) := ⟨rfl, rfl, rfl, by decide +kernel, rfl, by decide +kernel, by decide +kernel⟩
set_option maxHeartbeats 8000000 in
theorem ok_L {f fP fDr fQ fQ2 fKn CPE CNS CIM CIX CUR CIA CIP CIQ CUL CUV CNU CIN CDN CUN CUM CIC CIL CPF CRE : Addr} {fd fdP fdDr fdQ fdQ2 fdKn : FuncData} {k : Nat} (F : Fun K "law" "law" sL f fd) (AC : ∀ j D, [CPE, CNS, CIM, CIX, CUR, CIA, CIP, CIQ, CUL, CUV, CNU, CIN, CDN, CUN, CUM, CIC, CIL, CPF][j]? = some D → OneC K CRE [CPE, CNS, CIM, CIX, CUR, CIA, CIP, CIQ, CUL, CUV, CNU, CIN, CDN, CUN, CUM, CIC, CIL, CPF] j D) (XP : XfC K CPE) (XN : XfC K CNS) (noPE : PySem.W.findIn K (.ref CPE) "line" = some none) (noNS : PySem.W.findIn K (.ref CNS) "leaf" = some none)
    (GP : FnOk P w K mg base CX0 k fP fdP ["script"] (spPen K))
    (FP : Fun K "_law_pen" "_law_pen" sP fP fdP) (bP : Binds K fdP ["script"] []) (gP : mg "_law_pen" = some (.ref fP))
    (GDr : FnOk P w K mg base CX0 k fDr fdDr ["pen", "below"] spDraw)
    (FDr : Fun K "_law_draw" "_law_draw" sDr fDr fdDr) (bDr : Binds K fdDr ["pen", "below"] []) (gDr : mg "_law_draw" = some (.ref fDr))
    (m_str : mg "str" = none)
    (GQ : FnOk P w K mg base CX0 k fQ fdQ ["self", "line"] ((spExI CPE "line")))
    (OPE : OexC K CPE) (gPE : mg "ParseError" = some (.ref CPE)) (aQ : PySem.W.findIn K (.ref CPE) "__init__" = some (some (.ref fQ))) (tyQ : PySem.W.typeIn K (.ref fQ) = some (.type "function")) (bQ : Binds K fdQ ["self", "line"] [])
    (GQ2 : FnOk P w K mg base CX0 k fQ2 fdQ2 ["self", "leaf"] ((spExS CNS "leaf")))
    (ONS : OexC K CNS) (gNS : mg "NoSolution" = some (.ref CNS)) (aQ2 : PySem.W.findIn K (.ref CNS) "__init__" = some (some (.ref fQ2))) (tyQ2 : PySem.W.typeIn K (.ref fQ2) = some (.type "function")) (bQ2 : Binds K fdQ2 ["self", "leaf"] [])
    (EIM : ExF K CIM) (gIM : mg "InvalidMap" = some (.ref CIM))
    (EIX : ExF K CIX) (gIX : mg "InvalidPrefix" = some (.ref CIX))
    (EUR : ExF K CUR) (gUR : mg "UnknownRow" = some (.ref CUR))
    (EIA : ExF K CIA) (gIA : mg "InvalidAddress" = some (.ref CIA))
    (EIP : ExF K CIP) (gIP : mg "InvalidPair" = some (.ref CIP))
    (EIQ : ExF K CIQ) (gIQ : mg "InvalidPrices" = some (.ref CIQ))
    (EUL : ExF K CUL) (gUL : mg "UnknownLeaf" = some (.ref CUL))
    (EUV : ExF K CUV) (gUV : mg "UnknownVersion" = some (.ref CUV))
    (ENU : ExF K CNU) (gNU : mg "NothingToUndo" = some (.ref CNU))
    (EIN : ExF K CIN) (gIN : mg "InvalidName" = some (.ref CIN))
    (EDN : ExF K CDN) (gDN : mg "DuplicateName" = some (.ref CDN))
    (EUN : ExF K CUN) (gUN : mg "UnknownName" = some (.ref CUN))
    (EUM : ExF K CUM) (gUM : mg "UnknownMark" = some (.ref CUM))
    (EIC : ExF K CIC) (gIC : mg "InvalidCommand" = some (.ref CIC))
    (EIL : ExF K CIL) (gIL : mg "InvalidLine" = some (.ref CIL))
    (EPF : ExF K CPF) (gPF : mg "PlanFinished" = some (.ref CPF))
    (m_range : mg "range" = none)
    (m_len : mg "len" = none)
    (ERE : ExF K CRE) (gRE : mg "RouteError" = some (.ref CRE))
    (m_isinstance : mg "isinstance" = none)
    (m_ValueError : mg "ValueError" = none)
    (GKn : FnOk P w K mg base CX0 k fKn fdKn ["error"] ((spKinds K CPE CNS CIM CIX CUR CIA CIP CIQ CUL CUV CNU CIN CDN CUN CUM CIC CIL CPF)))
    (FKn : Fun K "_law_kinds" "_law_kinds" sKn fKn fdKn) (bKn : Binds K fdKn ["error"] []) (gKn : mg "_law_kinds" = some (.ref fKn))
    (kxQ : ∀ (s : Shared) (a b : Value), BindsTo s fdQ ⟨[a], [("line", b)]⟩ ((["self", "line"] : List Str).zip [a, b]))
    (kxQ2 : ∀ (s : Shared) (a b : Value), BindsTo s fdQ2 ⟨[a], [("leaf", b)]⟩ ((["self", "leaf"] : List Str).zip [a, b]))
    : FnG P w K mg base (k + 2) f fd ["script"] (spLaw K) := by
  refine okG F scL (fun vs H Q E h => ?_) (fun cdv A outer s H vs Q g hr h => ?_)
  · obtain ⟨a0, ns, rfl, _⟩ := h
    rfl
  · obtain ⟨a0, ns, rfl, hS, hlen, q⟩ := h
    have nd := scL.nd
    have hu := hr.units
    have hu1 := hu_of hr
    have hr1 := hr.mono (Nat.le_succ k)
    refine ⟨_, pss_cons (ps_set (i := 1) nd rfl (.inl rfl) (pe_call GP hr1 (by rfl) gP FP.kp bP .nil pass0 (pa_cons (pv 0) pa_nil)))
      (pss_cons (ps_set (i := 2) nd rfl (.inl rfl) (pe_call GDr hr1 (by rfl) gDr FDr.kp bDr .nil pass0 (pa_cons (pv 1) (pa_cons (pe_op op_pow pe_int pe_int) pa_nil))))
      (pss_cons (ps_set (i := 3) nd rfl (.inl rfl) (pe_op op_add_str pe_str (pe_callTy call_str_int (by rfl) m_str (by decide +kernel) (pa_cons (pe_call GDr hr1 (by rfl) gDr FDr.kp bDr .nil pass0 (pa_cons (pv 1) (pa_cons pe_int pa_nil))) pa_nil))))
      (pss_cons (ps_set (i := 4) nd rfl (.inl rfl) (pe_lst (pa_cons (pe_oexV OPE aQ tyQ GQ hr bQ pass0 (by rfl) gPE (pa_cons (pv 2) pa_nil)) (pa_cons (pe_oexV ONS aQ2 tyQ2 GQ2 hr bQ2 pass0 (by rfl) gNS (pa_cons (pv 3) pa_nil)) (pa_cons (pe_exc1 PySem.F.excBase_ValueError EIM.x gIM EIM.k (by rfl) (pv 3)) (pa_cons (pe_exc1 PySem.F.excBase_ValueError EIX.x gIX EIX.k (by rfl) (pv 3)) (pa_cons (pe_exc1 PySem.F.excBase_ValueError EUR.x gUR EUR.k (by rfl) (pv 3)) pa_nil)))))))
      (pss_cons (ps_set (i := 4) nd rfl (.inl rfl) (pe_op op_cat (pv 4) (pe_lst (pa_cons (pe_exc1 PySem.F.excBase_ValueError EIA.x gIA EIA.k (by rfl) (pv 3)) (pa_cons (pe_exc1 PySem.F.excBase_ValueError EIP.x gIP EIP.k (by rfl) (pv 3)) (pa_cons (pe_exc1 PySem.F.excBase_ValueError EIQ.x gIQ EIQ.k (by rfl) (pv 3)) (pa_cons (pe_exc1 PySem.F.excBase_ValueError EUL.x gUL EUL.k (by rfl) (pv 3)) pa_nil)))))))
      (pss_cons (ps_set (i := 4) nd rfl (.inl rfl) (pe_op op_cat (pv 4) (pe_lst (pa_cons (pe_exc1 PySem.F.excBase_ValueError EUV.x gUV EUV.k (by rfl) (pv 3)) (pa_cons (pe_exc1 PySem.F.excBase_ValueError ENU.x gNU ENU.k (by rfl) (pv 3)) (pa_cons (pe_exc1 PySem.F.excBase_ValueError EIN.x gIN EIN.k (by rfl) (pv 3)) (pa_cons (pe_exc1 PySem.F.excBase_ValueError EDN.x gDN EDN.k (by rfl) (pv 3)) pa_nil)))))))
      (pss_cons (ps_set (i := 4) nd rfl (.inl rfl) (pe_op op_cat (pv 4) (pe_lst (pa_cons (pe_exc1 PySem.F.excBase_ValueError EUN.x gUN EUN.k (by rfl) (pv 3)) (pa_cons (pe_exc1 PySem.F.excBase_ValueError EUM.x gUM EUM.k (by rfl) (pv 3)) (pa_cons (pe_exc1 PySem.F.excBase_ValueError EIC.x gIC EIC.k (by rfl) (pv 3)) (pa_cons (pe_exc1 PySem.F.excBase_ValueError EIL.x gIL EIL.k (by rfl) (pv 3)) pa_nil)))))))
      (C8.pss_cut (ps_expr (pe_bm PySem.F.plainAttrs_list PySem.F.slot_list_append PySem.F.type_list_append mt_append (pv 4) (pa_cons (pe_exc1 PySem.F.excBase_ValueError EPF.x gPF EPF.k (by rfl) (pv 3)) pa_nil)))
      (pss_cons (ps_for PassesOwn.never rfl (pi_range1 (by rfl) m_range (pa_cons (pe_callB call_len_seq (by rfl) m_len (by decide +kernel) (pa_cons (pv 4) pa_nil)) pa_nil)) (pg_name (i := 5) nd rfl (.inr rfl))
        (pss_cons (ps_if (PW.pt (pw_or (pt_not (pt_val (pe_callB call_isV (by rfl) m_isinstance (by decide +kernel) (pa_cons (pe_ix ix_list (pv 4) (pv 5) (fun _ _ => rfl)) (pa_cons (pe_bltn (v := .ty "ValueError") (by rfl) m_ValueError (by decide +kernel) rfl) pa_nil))))) (pw_or1 (pt_not (pt_val (pe_callB call_isV (by rfl) m_isinstance (by decide +kernel) (pa_cons (pe_ix ix_list (pv 4) (pv 5) (fun _ _ => rfl)) (pa_cons (pe_glob (v := .ref CRE) rfl gRE rfl) pa_nil))))))))
          (pss_one (ps_ret pe_bl)) pss_nil)
        (pss_one (ps_if (pt_cmpR (op_neD hu) (pe_call GKn hr1 (by rfl) gKn FKn.kp bKn .nil pass0 (pa_cons (pe_ix ix_list (pv 4) (pv 5) (fun _ _ => rfl)) pa_nil)) (pe_lc (own := [("j", 6)]) (g := gName 6) (tt := tYes) rfl nd (pi_range1 (by rfl) m_range (pa_cons (pe_callB call_len_seq (by rfl) m_len (by decide +kernel) (pa_cons (pv 4) pa_nil)) pa_nil)) (blkOk_by (N := NL) (sc := defScope sL) (by decide +kernel)) (fun _ _ _ _ _ => pg_name (i := 6) nd rfl (.inl rfl)) (fun _ _ _ _ _ => pts_nil) (fun _ _ _ _ _ => (pe_cmpR op_eq (pv 6) (pv 5) (nomark _)))) (nomark _))
          (pss_one (ps_ret pe_bl)) pss_nil))))
      (pss_cons (ps_set (i := 7) nd rfl (.inl rfl) (pe_lst (pa_cons (pe_xfV (pe_ix ix_list (pv 4) pe_int (fun _ _ => rfl))) (pa_cons (pe_xfV (pe_ix ix_list (pv 4) pe_int (fun _ _ => rfl))) (pa_cons (pe_xfV (pe_oexVK OPE aQ tyQ GQ hr kxQ pass0 (by rfl) gPE (pk_cons pe_int pk_nil))) (pa_cons (pe_xfV (pe_oexVK ONS aQ2 tyQ2 GQ2 hr kxQ2 pass0 (by rfl) gNS (pk_cons pe_str pk_nil))) pa_nil))))))
      (pss_one (ps_ret (pe_cmpR (op_eqD hu) (pv 7) (pe_lst (pa_cons (pv 2) (pa_cons (pv 3) (pa_cons pe_int (pa_cons pe_str pa_nil))))) (nomark _))))))))))))), ?_⟩
    refine ⟨.ref a0, rfl, a0, ns, rfl, hS, hlen, fun H0 p c sm0 np nc hp => ?_⟩
    refine ⟨.ref p, rfl, 10, 6, rfl, rfl, ⟨by decide, by decide, by decide⟩, p, c, 0, [], 1000000, rfl, hp, by decide, by decide, by decide, fun nu H1 d0 d1 b1 p1 => ?_⟩
    refine ⟨.ref p, rfl, p, c, 0 + 1, [], 1000, rfl, p1, by decide, by decide, by decide, fun d2 H2 e0 e1 b2 p2 => ?_⟩
    obtain ⟨lg1, ln1⟩ := num_sm d0 d1
    obtain ⟨lg2, ln2⟩ := num_sm e0 (show d2 < 1000000 by omega)
    have nl : Str.length "note " = 5 := by decide
    refine ⟨d2, rfl, lg2, "note ", _, rfl, rfl, by rw [nl]; exact big_of (by omega), ?_⟩
    have nol : (("note " : Str) ++ Str.ofString (toString d2)).length ≤ 900 := by
      rw [str_app_len, nl]
      omega
    have nsm := note_sm e0 e1
    generalize (("note " : Str) ++ Str.ofString (toString d2)) = note at nol nsm ⊢
    clear hS hlen sm0 np nc hp p1 p2 b1 b2 e0 e1 lg2 ln2
    refine ⟨.int nu, rfl, by show 1 ≤ 1000; decide, fun e0 q0 => ⟨e0, nu, rfl, lg1, Nat.le_trans ln1 (by decide), upd_same, fun dd0 z0 y0 => ⟨rfl, .str note, rfl, by show 1 ≤ 1000; decide, fun e1 q1 => ⟨e1, note, rfl, nol, upd_same, fun dd1 z1 y1 => ⟨rfl, ?_⟩⟩⟩⟩⟩
    obtain ⟨g0, h0⟩ := two_new q0 z0 y0 (C := CPE) (fs := [("line", .int nu)])
    obtain ⟨g1, h1⟩ := two_new q1 z1 y1 (C := CNS) (fs := [("leaf", .str note)])
    have s0 := same_new q0 z0 y0 (C := CPE) (fs := [("line", .int nu)])
    have s1 := same_new q1 z1 y1 (C := CNS) (fs := [("leaf", .str note)])
    have g0' := s1 _ _ g0
    have h0' := s1 _ _ h0
    clear s0 s1 g0 h0 q0 z0 y0 q1 z1 y1
    revert g0' h0' g1 h1
    generalize upd (upd (upd (upd (upd (upd H2 e0 (exo e0 CPE none)) dd0 (exd dd0 [("line", .int nu)])) e0 (exo e0 CPE (some dd0))) e1 (exo e1 CNS none)) dd1 (exd dd1 [("leaf", .str note)])) e1 (exo e1 CNS (some dd1)) = H3
    intro g1 h1 g0 h0
    refine ⟨.str note, rfl, fun e2 q2 => ?_⟩
    have sn := same_upd (o := ExO (.ref CIM) e2) q2
    replace g0 := sn _ _ g0
    replace h0 := sn _ _ h0
    replace g1 := sn _ _ g1
    replace h1 := sn _ _ h1
    have x2 := upd_same (H := H3) (a := e2) (o := ExO (.ref CIM) e2)
    clear sn q2
    revert g0 h0 g1 h1 x2
    generalize upd H3 e2 (ExO (.ref CIM) e2) = H4
    intro g0 h0 g1 h1 x2
    refine ⟨.str note, rfl, fun e3 q3 => ?_⟩
    have sn := same_upd (o := ExO (.ref CIX) e3) q3
    replace g0 := sn _ _ g0
    replace h0 := sn _ _ h0
    replace g1 := sn _ _ g1
    replace h1 := sn _ _ h1
    replace x2 := sn _ _ x2
    have x3 := upd_same (H := H4) (a := e3) (o := ExO (.ref CIX) e3)
    clear sn q3
    revert g0 h0 g1 h1 x2 x3
    generalize upd H4 e3 (ExO (.ref CIX) e3) = H5
    intro g0 h0 g1 h1 x2 x3
    refine ⟨.str note, rfl, fun e4 q4 => ?_⟩
    have sn := same_upd (o := ExO (.ref CUR) e4) q4
    replace g0 := sn _ _ g0
    replace h0 := sn _ _ h0
    replace g1 := sn _ _ g1
    replace h1 := sn _ _ h1
    replace x2 := sn _ _ x2
    replace x3 := sn _ _ x3
    have x4 := upd_same (H := H5) (a := e4) (o := ExO (.ref CUR) e4)
    clear sn q4
    revert g0 h0 g1 h1 x2 x3 x4
    generalize upd H5 e4 (ExO (.ref CUR) e4) = H6
    intro g0 h0 g1 h1 x2 x3 x4
    refine ⟨by show 5 ≤ sizeLine; decide, fun La nLa => ?_⟩
    have sn := same_upd (o := .lst [.ref e0, .ref e1, .ref e2, .ref e3, .ref e4]) nLa
    replace g0 := sn _ _ g0
    replace h0 := sn _ _ h0
    replace g1 := sn _ _ g1
    replace h1 := sn _ _ h1
    replace x2 := sn _ _ x2
    replace x3 := sn _ _ x3
    replace x4 := sn _ _ x4
    have lLa := upd_same (H := H6) (a := La) (o := .lst [.ref e0, .ref e1, .ref e2, .ref e3, .ref e4])
    clear sn nLa
    revert g0 h0 g1 h1 x2 x3 x4 lLa
    generalize upd H6 La (.lst [.ref e0, .ref e1, .ref e2, .ref e3, .ref e4]) = H7
    intro g0 h0 g1 h1 x2 x3 x4 lLa
    refine ⟨.ref La, rfl, .str note, rfl, fun e5 q5 => ?_⟩
    have sn := same_upd (o := ExO (.ref CIA) e5) q5
    replace g0 := sn _ _ g0
    replace h0 := sn _ _ h0
    replace g1 := sn _ _ g1
    replace h1 := sn _ _ h1
    replace x2 := sn _ _ x2
    replace x3 := sn _ _ x3
    replace x4 := sn _ _ x4
    replace lLa := sn _ _ lLa
    have x5 := upd_same (H := H7) (a := e5) (o := ExO (.ref CIA) e5)
    clear sn q5
    revert g0 h0 g1 h1 x2 x3 x4 lLa x5
    generalize upd H7 e5 (ExO (.ref CIA) e5) = H8
    intro g0 h0 g1 h1 x2 x3 x4 lLa x5
    refine ⟨.str note, rfl, fun e6 q6 => ?_⟩
    have sn := same_upd (o := ExO (.ref CIP) e6) q6
    replace g0 := sn _ _ g0
    replace h0 := sn _ _ h0
    replace g1 := sn _ _ g1
    replace h1 := sn _ _ h1
    replace x2 := sn _ _ x2
    replace x3 := sn _ _ x3
    replace x4 := sn _ _ x4
    replace lLa := sn _ _ lLa
    replace x5 := sn _ _ x5
    have x6 := upd_same (H := H8) (a := e6) (o := ExO (.ref CIP) e6)
    clear sn q6
    revert g0 h0 g1 h1 x2 x3 x4 lLa x5 x6
    generalize upd H8 e6 (ExO (.ref CIP) e6) = H9
    intro g0 h0 g1 h1 x2 x3 x4 lLa x5 x6
    refine ⟨.str note, rfl, fun e7 q7 => ?_⟩
    have sn := same_upd (o := ExO (.ref CIQ) e7) q7
    replace g0 := sn _ _ g0
    replace h0 := sn _ _ h0
    replace g1 := sn _ _ g1
    replace h1 := sn _ _ h1
    replace x2 := sn _ _ x2
    replace x3 := sn _ _ x3
    replace x4 := sn _ _ x4
    replace lLa := sn _ _ lLa
    replace x5 := sn _ _ x5
    replace x6 := sn _ _ x6
    have x7 := upd_same (H := H9) (a := e7) (o := ExO (.ref CIQ) e7)
    clear sn q7
    revert g0 h0 g1 h1 x2 x3 x4 lLa x5 x6 x7
    generalize upd H9 e7 (ExO (.ref CIQ) e7) = H10
    intro g0 h0 g1 h1 x2 x3 x4 lLa x5 x6 x7
    refine ⟨.str note, rfl, fun e8 q8 => ?_⟩
    have sn := same_upd (o := ExO (.ref CUL) e8) q8
    replace g0 := sn _ _ g0
    replace h0 := sn _ _ h0
    replace g1 := sn _ _ g1
    replace h1 := sn _ _ h1
    replace x2 := sn _ _ x2
    replace x3 := sn _ _ x3
    replace x4 := sn _ _ x4
    replace lLa := sn _ _ lLa
    replace x5 := sn _ _ x5
    replace x6 := sn _ _ x6
    replace x7 := sn _ _ x7
    have x8 := upd_same (H := H10) (a := e8) (o := ExO (.ref CUL) e8)
    clear sn q8
    revert g0 h0 g1 h1 x2 x3 x4 lLa x5 x6 x7 x8
    generalize upd H10 e8 (ExO (.ref CUL) e8) = H11
    intro g0 h0 g1 h1 x2 x3 x4 lLa x5 x6 x7 x8
    refine ⟨by show 4 ≤ sizeLine; decide, fun Ma nMa => ?_⟩
    have sn := same_upd (o := .lst [.ref e5, .ref e6, .ref e7, .ref e8]) nMa
    replace g0 := sn _ _ g0
    replace h0 := sn _ _ h0
    replace g1 := sn _ _ g1
    replace h1 := sn _ _ h1
    replace x2 := sn _ _ x2
    replace x3 := sn _ _ x3
    replace x4 := sn _ _ x4
    replace lLa := sn _ _ lLa
    replace x5 := sn _ _ x5
    replace x6 := sn _ _ x6
    replace x7 := sn _ _ x7
    replace x8 := sn _ _ x8
    have lMa := upd_same (H := H11) (a := Ma) (o := .lst [.ref e5, .ref e6, .ref e7, .ref e8])
    clear sn nMa
    revert g0 h0 g1 h1 x2 x3 x4 lLa x5 x6 x7 x8 lMa
    generalize upd H11 Ma (.lst [.ref e5, .ref e6, .ref e7, .ref e8]) = H12
    intro g0 h0 g1 h1 x2 x3 x4 lLa x5 x6 x7 x8 lMa
    refine ⟨La, Ma, _, _, rfl, rfl, lLa, lMa, by show 9 ≤ sizeLine; decide, fun Lb nLb => ?_⟩
    have sn := same_upd (o := .lst ([.ref e0, .ref e1, .ref e2, .ref e3, .ref e4] ++ [.ref e5, .ref e6, .ref e7, .ref e8])) nLb
    replace g0 := sn _ _ g0
    replace h0 := sn _ _ h0
    replace g1 := sn _ _ g1
    replace h1 := sn _ _ h1
    replace x2 := sn _ _ x2
    replace x3 := sn _ _ x3
    replace x4 := sn _ _ x4
    replace lLa := sn _ _ lLa
    replace x5 := sn _ _ x5
    replace x6 := sn _ _ x6
    replace x7 := sn _ _ x7
    replace x8 := sn _ _ x8
    replace lMa := sn _ _ lMa
    have lLb := upd_same (H := H12) (a := Lb) (o := .lst ([.ref e0, .ref e1, .ref e2, .ref e3, .ref e4] ++ [.ref e5, .ref e6, .ref e7, .ref e8]))
    clear sn nLb
    revert g0 h0 g1 h1 x2 x3 x4 lLa x5 x6 x7 x8 lMa lLb
    generalize upd H12 Lb (.lst ([.ref e0, .ref e1, .ref e2, .ref e3, .ref e4] ++ [.ref e5, .ref e6, .ref e7, .ref e8])) = H13
    intro g0 h0 g1 h1 x2 x3 x4 lLa x5 x6 x7 x8 lMa lLb
    replace lLb : H13 Lb = some (.lst [.ref e0, .ref e1, .ref e2, .ref e3, .ref e4, .ref e5, .ref e6, .ref e7, .ref e8]) := lLb
    clear lLa lMa
    refine ⟨.ref Lb, rfl, .str note, rfl, fun e9 q9 => ?_⟩
    have sn := same_upd (o := ExO (.ref CUV) e9) q9
    replace g0 := sn _ _ g0
    replace h0 := sn _ _ h0
    replace g1 := sn _ _ g1
    replace h1 := sn _ _ h1
    replace x2 := sn _ _ x2
    replace x3 := sn _ _ x3
    replace x4 := sn _ _ x4
    replace x5 := sn _ _ x5
    replace x6 := sn _ _ x6
    replace x7 := sn _ _ x7
    replace x8 := sn _ _ x8
    replace lLb := sn _ _ lLb
    have x9 := upd_same (H := H13) (a := e9) (o := ExO (.ref CUV) e9)
    clear sn q9
    revert g0 h0 g1 h1 x2 x3 x4 x5 x6 x7 x8 lLb x9
    generalize upd H13 e9 (ExO (.ref CUV) e9) = H14
    intro g0 h0 g1 h1 x2 x3 x4 x5 x6 x7 x8 lLb x9
    refine ⟨.str note, rfl, fun e10 q10 => ?_⟩
    have sn := same_upd (o := ExO (.ref CNU) e10) q10
    replace g0 := sn _ _ g0
    replace h0 := sn _ _ h0
    replace g1 := sn _ _ g1
    replace h1 := sn _ _ h1
    replace x2 := sn _ _ x2
    replace x3 := sn _ _ x3
    replace x4 := sn _ _ x4
    replace x5 := sn _ _ x5
    replace x6 := sn _ _ x6
    replace x7 := sn _ _ x7
    replace x8 := sn _ _ x8
    replace lLb := sn _ _ lLb
    replace x9 := sn _ _ x9
    have x10 := upd_same (H := H14) (a := e10) (o := ExO (.ref CNU) e10)
    clear sn q10
    revert g0 h0 g1 h1 x2 x3 x4 x5 x6 x7 x8 lLb x9 x10
    generalize upd H14 e10 (ExO (.ref CNU) e10) = H15
    intro g0 h0 g1 h1 x2 x3 x4 x5 x6 x7 x8 lLb x9 x10
    refine ⟨.str note, rfl, fun e11 q11 => ?_⟩
    have sn := same_upd (o := ExO (.ref CIN) e11) q11
    replace g0 := sn _ _ g0
    replace h0 := sn _ _ h0
    replace g1 := sn _ _ g1
    replace h1 := sn _ _ h1
    replace x2 := sn _ _ x2
    replace x3 := sn _ _ x3
    replace x4 := sn _ _ x4
    replace x5 := sn _ _ x5
    replace x6 := sn _ _ x6
    replace x7 := sn _ _ x7
    replace x8 := sn _ _ x8
    replace lLb := sn _ _ lLb
    replace x9 := sn _ _ x9
    replace x10 := sn _ _ x10
    have x11 := upd_same (H := H15) (a := e11) (o := ExO (.ref CIN) e11)
    clear sn q11
    revert g0 h0 g1 h1 x2 x3 x4 x5 x6 x7 x8 lLb x9 x10 x11
    generalize upd H15 e11 (ExO (.ref CIN) e11) = H16
    intro g0 h0 g1 h1 x2 x3 x4 x5 x6 x7 x8 lLb x9 x10 x11
    refine ⟨.str note, rfl, fun e12 q12 => ?_⟩
    have sn := same_upd (o := ExO (.ref CDN) e12) q12
    replace g0 := sn _ _ g0
    replace h0 := sn _ _ h0
    replace g1 := sn _ _ g1
    replace h1 := sn _ _ h1
    replace x2 := sn _ _ x2
    replace x3 := sn _ _ x3
    replace x4 := sn _ _ x4
    replace x5 := sn _ _ x5
    replace x6 := sn _ _ x6
    replace x7 := sn _ _ x7
    replace x8 := sn _ _ x8
    replace lLb := sn _ _ lLb
    replace x9 := sn _ _ x9
    replace x10 := sn _ _ x10
    replace x11 := sn _ _ x11
    have x12 := upd_same (H := H16) (a := e12) (o := ExO (.ref CDN) e12)
    clear sn q12
    revert g0 h0 g1 h1 x2 x3 x4 x5 x6 x7 x8 lLb x9 x10 x11 x12
    generalize upd H16 e12 (ExO (.ref CDN) e12) = H17
    intro g0 h0 g1 h1 x2 x3 x4 x5 x6 x7 x8 lLb x9 x10 x11 x12
    refine ⟨by show 4 ≤ sizeLine; decide, fun Mb nMb => ?_⟩
    have sn := same_upd (o := .lst [.ref e9, .ref e10, .ref e11, .ref e12]) nMb
    replace g0 := sn _ _ g0
    replace h0 := sn _ _ h0
    replace g1 := sn _ _ g1
    replace h1 := sn _ _ h1
    replace x2 := sn _ _ x2
    replace x3 := sn _ _ x3
    replace x4 := sn _ _ x4
    replace x5 := sn _ _ x5
    replace x6 := sn _ _ x6
    replace x7 := sn _ _ x7
    replace x8 := sn _ _ x8
    replace lLb := sn _ _ lLb
    replace x9 := sn _ _ x9
    replace x10 := sn _ _ x10
    replace x11 := sn _ _ x11
    replace x12 := sn _ _ x12
    have lMb := upd_same (H := H17) (a := Mb) (o := .lst [.ref e9, .ref e10, .ref e11, .ref e12])
    clear sn nMb
    revert g0 h0 g1 h1 x2 x3 x4 x5 x6 x7 x8 lLb x9 x10 x11 x12 lMb
    generalize upd H17 Mb (.lst [.ref e9, .ref e10, .ref e11, .ref e12]) = H18
    intro g0 h0 g1 h1 x2 x3 x4 x5 x6 x7 x8 lLb x9 x10 x11 x12 lMb
    refine ⟨Lb, Mb, _, _, rfl, rfl, lLb, lMb, by show 13 ≤ sizeLine; decide, fun Lc nLc => ?_⟩
    have sn := same_upd (o := .lst ([.ref e0, .ref e1, .ref e2, .ref e3, .ref e4, .ref e5, .ref e6, .ref e7, .ref e8] ++ [.ref e9, .ref e10, .ref e11, .ref e12])) nLc
    replace g0 := sn _ _ g0
    replace h0 := sn _ _ h0
    replace g1 := sn _ _ g1
    replace h1 := sn _ _ h1
    replace x2 := sn _ _ x2
    replace x3 := sn _ _ x3
    replace x4 := sn _ _ x4
    replace x5 := sn _ _ x5
    replace x6 := sn _ _ x6
    replace x7 := sn _ _ x7
    replace x8 := sn _ _ x8
    replace lLb := sn _ _ lLb
    replace x9 := sn _ _ x9
    replace x10 := sn _ _ x10
    replace x11 := sn _ _ x11
    replace x12 := sn _ _ x12
    replace lMb := sn _ _ lMb
    have lLc := upd_same (H := H18) (a := Lc) (o := .lst ([.ref e0, .ref e1, .ref e2, .ref e3, .ref e4, .ref e5, .ref e6, .ref e7, .ref e8] ++ [.ref e9, .ref e10, .ref e11, .ref e12]))
    clear sn nLc
    revert g0 h0 g1 h1 x2 x3 x4 x5 x6 x7 x8 lLb x9 x10 x11 x12 lMb lLc
    generalize upd H18 Lc (.lst ([.ref e0, .ref e1, .ref e2, .ref e3, .ref e4, .ref e5, .ref e6, .ref e7, .ref e8] ++ [.ref e9, .ref e10, .ref e11, .ref e12])) = H19
    intro g0 h0 g1 h1 x2 x3 x4 x5 x6 x7 x8 lLb x9 x10 x11 x12 lMb lLc
    replace lLc : H19 Lc = some (.lst [.ref e0, .ref e1, .ref e2, .ref e3, .ref e4, .ref e5, .ref e6, .ref e7, .ref e8, .ref e9, .ref e10, .ref e11, .ref e12]) := lLc
    clear lLb lMb
    refine ⟨.ref Lc, rfl, .str note, rfl, fun e13 q13 => ?_⟩
    have sn := same_upd (o := ExO (.ref CUN) e13) q13
    replace g0 := sn _ _ g0
    replace h0 := sn _ _ h0
    replace g1 := sn _ _ g1
    replace h1 := sn _ _ h1
    replace x2 := sn _ _ x2
    replace x3 := sn _ _ x3
    replace x4 := sn _ _ x4
    replace x5 := sn _ _ x5
    replace x6 := sn _ _ x6
    replace x7 := sn _ _ x7
    replace x8 := sn _ _ x8
    replace x9 := sn _ _ x9
    replace x10 := sn _ _ x10
    replace x11 := sn _ _ x11
    replace x12 := sn _ _ x12
    replace lLc := sn _ _ lLc
    have x13 := upd_same (H := H19) (a := e13) (o := ExO (.ref CUN) e13)
    clear sn q13
    revert g0 h0 g1 h1 x2 x3 x4 x5 x6 x7 x8 x9 x10 x11 x12 lLc x13
    generalize upd H19 e13 (ExO (.ref CUN) e13) = H20
    intro g0 h0 g1 h1 x2 x3 x4 x5 x6 x7 x8 x9 x10 x11 x12 lLc x13
    refine ⟨.str note, rfl, fun e14 q14 => ?_⟩
    have sn := same_upd (o := ExO (.ref CUM) e14) q14
    replace g0 := sn _ _ g0
    replace h0 := sn _ _ h0
    replace g1 := sn _ _ g1
    replace h1 := sn _ _ h1
    replace x2 := sn _ _ x2
    replace x3 := sn _ _ x3
    replace x4 := sn _ _ x4
    replace x5 := sn _ _ x5
    replace x6 := sn _ _ x6
    replace x7 := sn _ _ x7
    replace x8 := sn _ _ x8
    replace x9 := sn _ _ x9
    replace x10 := sn _ _ x10
    replace x11 := sn _ _ x11
    replace x12 := sn _ _ x12
    replace lLc := sn _ _ lLc
    replace x13 := sn _ _ x13
    have x14 := upd_same (H := H20) (a := e14) (o := ExO (.ref CUM) e14)
    clear sn q14
    revert g0 h0 g1 h1 x2 x3 x4 x5 x6 x7 x8 x9 x10 x11 x12 lLc x13 x14
    generalize upd H20 e14 (ExO (.ref CUM) e14) = H21
    intro g0 h0 g1 h1 x2 x3 x4 x5 x6 x7 x8 x9 x10 x11 x12 lLc x13 x14
    refine ⟨.str note, rfl, fun e15 q15 => ?_⟩
    have sn := same_upd (o := ExO (.ref CIC) e15) q15
    replace g0 := sn _ _ g0
    replace h0 := sn _ _ h0
    replace g1 := sn _ _ g1
    replace h1 := sn _ _ h1
    replace x2 := sn _ _ x2
    replace x3 := sn _ _ x3
    replace x4 := sn _ _ x4
    replace x5 := sn _ _ x5
    replace x6 := sn _ _ x6
    replace x7 := sn _ _ x7
    replace x8 := sn _ _ x8
    replace x9 := sn _ _ x9
    replace x10 := sn _ _ x10
    replace x11 := sn _ _ x11
    replace x12 := sn _ _ x12
    replace lLc := sn _ _ lLc
    replace x13 := sn _ _ x13
    replace x14 := sn _ _ x14
    have x15 := upd_same (H := H21) (a := e15) (o := ExO (.ref CIC) e15)
    clear sn q15
    revert g0 h0 g1 h1 x2 x3 x4 x5 x6 x7 x8 x9 x10 x11 x12 lLc x13 x14 x15
    generalize upd H21 e15 (ExO (.ref CIC) e15) = H22
    intro g0 h0 g1 h1 x2 x3 x4 x5 x6 x7 x8 x9 x10 x11 x12 lLc x13 x14 x15
    refine ⟨.str note, rfl, fun e16 q16 => ?_⟩
    have sn := same_upd (o := ExO (.ref CIL) e16) q16
    replace g0 := sn _ _ g0
    replace h0 := sn _ _ h0
    replace g1 := sn _ _ g1
    replace h1 := sn _ _ h1
    replace x2 := sn _ _ x2
    replace x3 := sn _ _ x3
    replace x4 := sn _ _ x4
    replace x5 := sn _ _ x5
    replace x6 := sn _ _ x6
    replace x7 := sn _ _ x7
    replace x8 := sn _ _ x8
    replace x9 := sn _ _ x9
    replace x10 := sn _ _ x10
    replace x11 := sn _ _ x11
    replace x12 := sn _ _ x12
    replace lLc := sn _ _ lLc
    replace x13 := sn _ _ x13
    replace x14 := sn _ _ x14
    replace x15 := sn _ _ x15
    have x16 := upd_same (H := H22) (a := e16) (o := ExO (.ref CIL) e16)
    clear sn q16
    revert g0 h0 g1 h1 x2 x3 x4 x5 x6 x7 x8 x9 x10 x11 x12 lLc x13 x14 x15 x16
    generalize upd H22 e16 (ExO (.ref CIL) e16) = H23
    intro g0 h0 g1 h1 x2 x3 x4 x5 x6 x7 x8 x9 x10 x11 x12 lLc x13 x14 x15 x16
    refine ⟨by show 4 ≤ sizeLine; decide, fun Mc nMc => ?_⟩
    have sn := same_upd (o := .lst [.ref e13, .ref e14, .ref e15, .ref e16]) nMc
    replace g0 := sn _ _ g0
    replace h0 := sn _ _ h0
    replace g1 := sn _ _ g1
    replace h1 := sn _ _ h1
    replace x2 := sn _ _ x2
    replace x3 := sn _ _ x3
    replace x4 := sn _ _ x4
    replace x5 := sn _ _ x5
    replace x6 := sn _ _ x6
    replace x7 := sn _ _ x7
    replace x8 := sn _ _ x8
    replace x9 := sn _ _ x9
    replace x10 := sn _ _ x10
    replace x11 := sn _ _ x11
    replace x12 := sn _ _ x12
    replace lLc := sn _ _ lLc
    replace x13 := sn _ _ x13
    replace x14 := sn _ _ x14
    replace x15 := sn _ _ x15
    replace x16 := sn _ _ x16
    have lMc := upd_same (H := H23) (a := Mc) (o := .lst [.ref e13, .ref e14, .ref e15, .ref e16])
    clear sn nMc
    revert g0 h0 g1 h1 x2 x3 x4 x5 x6 x7 x8 x9 x10 x11 x12 lLc x13 x14 x15 x16 lMc
    generalize upd H23 Mc (.lst [.ref e13, .ref e14, .ref e15, .ref e16]) = H24
    intro g0 h0 g1 h1 x2 x3 x4 x5 x6 x7 x8 x9 x10 x11 x12 lLc x13 x14 x15 x16 lMc
    refine ⟨Lc, Mc, _, _, rfl, rfl, lLc, lMc, by show 17 ≤ sizeLine; decide, fun Ld nLd => ?_⟩
    have sn := same_upd (o := .lst ([.ref e0, .ref e1, .ref e2, .ref e3, .ref e4, .ref e5, .ref e6, .ref e7, .ref e8, .ref e9, .ref e10, .ref e11, .ref e12] ++ [.ref e13, .ref e14, .ref e15, .ref e16])) nLd
    replace g0 := sn _ _ g0
    replace h0 := sn _ _ h0
    replace g1 := sn _ _ g1
    replace h1 := sn _ _ h1
    replace x2 := sn _ _ x2
    replace x3 := sn _ _ x3
    replace x4 := sn _ _ x4
    replace x5 := sn _ _ x5
    replace x6 := sn _ _ x6
    replace x7 := sn _ _ x7
    replace x8 := sn _ _ x8
    replace x9 := sn _ _ x9
    replace x10 := sn _ _ x10
    replace x11 := sn _ _ x11
    replace x12 := sn _ _ x12
    replace lLc := sn _ _ lLc
    replace x13 := sn _ _ x13
    replace x14 := sn _ _ x14
    replace x15 := sn _ _ x15
    replace x16 := sn _ _ x16
    replace lMc := sn _ _ lMc
    have lLd := upd_same (H := H24) (a := Ld) (o := .lst ([.ref e0, .ref e1, .ref e2, .ref e3, .ref e4, .ref e5, .ref e6, .ref e7, .ref e8, .ref e9, .ref e10, .ref e11, .ref e12] ++ [.ref e13, .ref e14, .ref e15, .ref e16]))
    clear sn nLd
    revert g0 h0 g1 h1 x2 x3 x4 x5 x6 x7 x8 x9 x10 x11 x12 lLc x13 x14 x15 x16 lMc lLd
    generalize upd H24 Ld (.lst ([.ref e0, .ref e1, .ref e2, .ref e3, .ref e4, .ref e5, .ref e6, .ref e7, .ref e8, .ref e9, .ref e10, .ref e11, .ref e12] ++ [.ref e13, .ref e14, .ref e15, .ref e16])) = H25
    intro g0 h0 g1 h1 x2 x3 x4 x5 x6 x7 x8 x9 x10 x11 x12 lLc x13 x14 x15 x16 lMc lLd
    replace lLd : H25 Ld = some (.lst [.ref e0, .ref e1, .ref e2, .ref e3, .ref e4, .ref e5, .ref e6, .ref e7, .ref e8, .ref e9, .ref e10, .ref e11, .ref e12, .ref e13, .ref e14, .ref e15, .ref e16]) := lLd
    clear lLc lMc
    refine ⟨fun σ H' => ∃ e17, σ = [some (.ref a0), some (.ref p), some (.int nu), some (.str note), some (.ref Ld), none, none, none] ∧ H' Ld = some (.lst [.ref e0, .ref e1, .ref e2, .ref e3, .ref e4, .ref e5, .ref e6, .ref e7, .ref e8, .ref e9, .ref e10, .ref e11, .ref e12, .ref e13, .ref e14, .ref e15, .ref e16, .ref e17]) ∧ Paired (fun D e => ExAny H' e D) [CPE, CNS, CIM, CIX, CUR, CIA, CIP, CIQ, CUL, CUV, CNU, CIN, CDN, CUN, CUM, CIC, CIL, CPF] [e0, e1, e2, e3, e4, e5, e6, e7, e8, e9, e10, e11, e12, e13, e14, e15, e16, e17] ∧ H' e0 = some (exo e0 CPE (some dd0)) ∧ H' dd0 = some (exd dd0 [("line", .int nu)]) ∧ H' e1 = some (exo e1 CNS (some dd1)) ∧ H' dd1 = some (exd dd1 [("leaf", .str note)]), ?_, ?_⟩
    · refine ⟨.ref Ld, rfl, .inl ⟨rfl, _, SqL.of lLd⟩, .str note, rfl, fun e17 q17 => ⟨Ld, _, _, rfl, rfl, same_upd q17 _ _ lLd, by show 17 < sizeLine; decide, ?_⟩⟩
      have sn := same_upd (o := ExO (.ref CPF) e17) q17
      replace g0 := sn _ _ g0
      replace h0 := sn _ _ h0
      replace g1 := sn _ _ g1
      replace h1 := sn _ _ h1
      replace x2 := sn _ _ x2
      replace x3 := sn _ _ x3
      replace x4 := sn _ _ x4
      replace x5 := sn _ _ x5
      replace x6 := sn _ _ x6
      replace x7 := sn _ _ x7
      replace x8 := sn _ _ x8
      replace x9 := sn _ _ x9
      replace x10 := sn _ _ x10
      replace x11 := sn _ _ x11
      replace x12 := sn _ _ x12
      replace x13 := sn _ _ x13
      replace x14 := sn _ _ x14
      replace x15 := sn _ _ x15
      replace x16 := sn _ _ x16
      replace lLd := sn _ _ lLd
      have x17 := upd_same (H := H25) (a := e17) (o := ExO (.ref CPF) e17)
      refine ⟨e17, rfl, upd_same, .cons (put_any (.inr ⟨dd0, _, g0, h0⟩) lLd) (.cons (put_any (.inr ⟨dd1, _, g1, h1⟩) lLd) (.cons (put_any (.inl x2) lLd) (.cons (put_any (.inl x3) lLd) (.cons (put_any (.inl x4) lLd) (.cons (put_any (.inl x5) lLd) (.cons (put_any (.inl x6) lLd) (.cons (put_any (.inl x7) lLd) (.cons (put_any (.inl x8) lLd) (.cons (put_any (.inl x9) lLd) (.cons (put_any (.inl x10) lLd) (.cons (put_any (.inl x11) lLd) (.cons (put_any (.inl x12) lLd) (.cons (put_any (.inl x13) lLd) (.cons (put_any (.inl x14) lLd) (.cons (put_any (.inl x15) lLd) (.cons (put_any (.inl x16) lLd) (.cons (put_any (.inl x17) lLd) .nil))))))))))))))))), put_ext g0 lLd, put_ext h0 lLd, put_ext g1 lLd, put_ext h1 lLd⟩
    rintro σ HE ⟨e17, rfl, hL, pr, g0, h0, g1, h1⟩
    clear x2 x3 x4 x5 x6 x7 x8 x9 x10 x11 x12 x13 x14 x15 x16 lLd
    refine ⟨.ref Ld, rfl, Ld, _, rfl, .inl (SqL.of hL), 18, rfl, by decide, by decide, for_range (n := 18) (fun i σ H' => (∃ x5 x6, σ = [some (.ref a0), some (.ref p), some (.int nu), some (.str note), some (.ref Ld), x5, x6, none]) ∧ Same HE H') ⟨⟨_, _, rfl⟩, .refl _⟩ ?_ ?_⟩
    · rintro i σ HF hi ⟨⟨x5, x6, rfl⟩, sF⟩
      obtain ⟨D, e, hD, he, hx⟩ := prd_at pr hi
      have oc := AC i D hD
      have hxF := hx.same sF
      have hLF := sF _ _ hL
      have hat : [.ref e0, .ref e1, .ref e2, .ref e3, .ref e4, .ref e5, .ref e6, .ref e7, .ref e8, .ref e9, .ref e10, .ref e11, .ref e12, .ref e13, .ref e14, .ref e15, .ref e16, .ref e17][i]? = some (V.ref e) := by rw [show ([.ref e0, .ref e1, .ref e2, .ref e3, .ref e4, .ref e5, .ref e6, .ref e7, .ref e8, .ref e9, .ref e10, .ref e11, .ref e12, .ref e13, .ref e14, .ref e15, .ref e16, .ref e17] : List V) = [e0, e1, e2, e3, e4, e5, e6, e7, e8, e9, e10, e11, e12, e13, e14, e15, e16, e17].map V.ref from rfl, List.getElem?_map, he]; rfl
      refine ⟨.ref Ld, rfl, .int (0 + (i : Nat)), rfl, Ld, _, _, .ref e, rfl, rfl, SqL.of hLF, at_of (j := i) (by omega) hat, e, D, .ty "ValueError", .type "ValueError", true, rfl, hxF, oc.ec, .ty _, oc.ve, true, rfl, iteF ?_⟩
      refine ⟨.ref Ld, rfl, .int (0 + (i : Nat)), rfl, Ld, _, _, .ref e, rfl, rfl, SqL.of hLF, at_of (j := i) (by omega) hat, e, D, .ref CRE, .ref CRE, true, rfl, hxF, oc.ec, .own _, oc.re, true, rfl, iteF ?_⟩
      refine ⟨.ref Ld, rfl, .int (0 + (i : Nat)), rfl, Ld, _, _, .ref e, rfl, rfl, SqL.of hLF, at_of (j := i) (by omega) hat, e, D, rowB 18 i, rfl, hxF, oc.ec, oc.ks, fun Lk HG sG hLk => ?_⟩
      have hLG := sG _ _ hLF
      refine ⟨.ref Ld, rfl, Ld, _, rfl, .inl (SqL.of hLG), 18, rfl, by decide, by decide, fun Dn nD => ?_⟩
      refine lc_it (walk_range (n := 18)) (fun j H' => H' Dn = some (.lst ((rowB j i).map V.bl)) ∧ Same HG H') ⟨upd_same, same_upd nD⟩ (fun _ _ _ _ => trivial) ?_ ?_
      · rintro j v HA HB hj ⟨hDn, sA⟩ ⟨rfl, rfl⟩
        have eb : decide (V.int (0 + (j : Nat)) = V.int (0 + (i : Nat))) = decide (j = i) := by
          refine decide_eq_decide.mpr ⟨fun e => by injection e with e; omega, fun e => by rw [e]⟩
        refine ⟨rfl, yes_if ⟨.int (0 + (j : Nat)), rfl, .int (0 + (i : Nat)), rfl, rfl, _, hDn, ?_, ?_, fun b o eb => ?_⟩⟩
        · rw [List.length_map]
          unfold rowB
          rw [List.length_map, List.length_range]
          exact big_lt (by omega)
        · rw [upd_same, eb]
          unfold rowB
          rw [List.range_succ, List.map_append, List.map_append]
          rfl
        · rw [upd_ne (ne_of_none eb nD)]
          exact sA _ _ eb
      · rintro HI ⟨hDn, sI⟩
        refine ⟨.list ((rowB 18 i).map PyData.bool), .list ((rowB 18 i).map PyData.bool), .lst (SqL.of (sI _ _ hLk)) (dpAll_bls _), .lst (SqL.of hDn) (dpAll_bls _), (row_data ⟨i, hi⟩).1, (row_data ⟨i, hi⟩).1, _, rfl, ?_⟩
        rw [(row_data ⟨i, hi⟩).2]
        exact iteF ⟨⟨_, _, rfl⟩, sF.trans (sG.trans sI)⟩
    rintro σ HF ⟨⟨x5, x6, rfl⟩, sF⟩
    have gL := sF _ _ hL
    have f0 := sF _ _ g0
    have fh0 := sF _ _ h0
    have f1 := sF _ _ g1
    have fh1 := sF _ _ h1
    refine ⟨.ref Ld, rfl, Ld, _, 0, .ref e0, rfl, rfl, SqL.of gL, atI_nat (j := 0) rfl, e0, CPE, dd0, _, .int nu, rfl, f0, fh0, XP, noPE, rfl, .ref Ld, rfl, Ld, _, 1, .ref e1, rfl, rfl, SqL.of gL, atI_nat (j := 1) rfl, e1, CNS, dd1, _, .str note, rfl, f1, fh1, XN, noNS, rfl, ?_⟩
    refine ⟨.int 5, rfl, fun ea na => ⟨ea, 5, rfl, by decide, by decide +kernel, upd_same, fun da nda nea => ⟨rfl, ea, CPE, da, _, .int 5, rfl, upd_same, by rw [upd_ne nea, upd_same], XP, noPE, rfl, ?_⟩⟩⟩
    refine ⟨.str "01", rfl, fun eb nb => ⟨eb, "01", rfl, by decide, upd_same, fun db ndb neb => ⟨rfl, eb, CNS, db, _, .str "01", rfl, upd_same, by rw [upd_ne neb, upd_same], XN, noNS, rfl, by show 4 ≤ sizeLine; decide, fun Hl nHl => ?_⟩⟩⟩
    refine ⟨.ref Hl, rfl, .int nu, rfl, .str note, rfl, by show 4 ≤ sizeLine; decide, fun Hr nHr => ?_⟩
    obtain ⟨sh, ev⟩ := held_data d0 d1 nsm
    refine ⟨.list [.int nu, .str note, .int 5, .str "01"], .list [.int nu, .str note, .int 5, .str "01"], .lst (SqL.of (same_upd nHr _ _ upd_same)) (.cons (.int _) (.cons (.str _) (.cons (.int _) (.cons (.str _) .nil)))), .lst (SqL.of upd_same) (.cons (.int _) (.cons (.str _) (.cons (.int _) (.cons (.str _) .nil)))), sh, sh, ?_⟩
    rw [ev]
    exact q _
end
abbrev sLaw : Stmt := sL
theorem all_mk {l : PySem.W.OpenLaw} {w : World} {K : PySem.W.Frag} {h : Heap} {mg : Str → Option Value} {fa fP fN fDr fKn fL CRE CIM CIX CUR CIA CIP CIQ CUL CUV CNU CIN CDN CUN CUM CIC CIL CPF CPE CNS fQ cdaQ ccQ fQ2 cdaQ2 ccQ2  : Addr} (X : K.In h) (G : h.Ns mainGlobals mg) (hfa : mg "law" = some (.ref fa))
    {odP anP odN anN odDr anDr odKn anKn odL anL : Option Addr} {slP slN slDr slKn slL : Array (Option Value)} {ocP dcP pmP cdP ctP kVP ocN dcN pmN cdN ctN kVN ocDr dcDr pmDr cdDr ctDr kVDr ocKn dcKn pmKn cdKn ctKn kVKn ocL dcL pmL cdL ctL kVL : Value}
    {ocQ kVQ dcQ pmQ ctQ ckQ lkQ : Value} {odQ anQ cddQ ldQ : Option Addr} {slQ csQ lsQ : Array (Option Value)} {vsQ : Array Value} {fiQ : Str} {tfQ : Tok}
    {ocQ2 kVQ2 dcQ2 pmQ2 ctQ2 ckQ2 lkQ2 : Value} {odQ2 anQ2 cddQ2 ldQ2 : Option Addr} {slQ2 csQ2 lsQ2 : Array (Option Value)} {vsQ2 : Array Value} {fiQ2 : Str} {tfQ2 : Tok}
    (aP : PySem.W.nsIn K mainGlobals "_law_pen" = some (some (.ref fP)))
    (lP : K.lookup fP = some ⟨ocP, odP, .func (PySem.W.fnOf "_law_pen" "_law_pen" (defArgs sP) (defBody sP) (defScope sP) .none kVP dcP pmP anP cdP ctP), slP⟩)
    (cP : PySem.W.codeIn K cdP "_law_pen" = true) (kP : PySem.W.keepIn K (.ref fP) = true)
    (aN : PySem.W.nsIn K mainGlobals "_law_next" = some (some (.ref fN)))
    (lN : K.lookup fN = some ⟨ocN, odN, .func (PySem.W.fnOf "_law_next" "_law_next" (defArgs sN) (defBody sN) (defScope sN) .none kVN dcN pmN anN cdN ctN), slN⟩)
    (cN : PySem.W.codeIn K cdN "_law_next" = true) (kN : PySem.W.keepIn K (.ref fN) = true)
    (aDr : PySem.W.nsIn K mainGlobals "_law_draw" = some (some (.ref fDr)))
    (lDr : K.lookup fDr = some ⟨ocDr, odDr, .func (PySem.W.fnOf "_law_draw" "_law_draw" (defArgs sDr) (defBody sDr) (defScope sDr) .none kVDr dcDr pmDr anDr cdDr ctDr), slDr⟩)
    (cDr : PySem.W.codeIn K cdDr "_law_draw" = true) (kDr : PySem.W.keepIn K (.ref fDr) = true)
    (aKn : PySem.W.nsIn K mainGlobals "_law_kinds" = some (some (.ref fKn)))
    (lKn : K.lookup fKn = some ⟨ocKn, odKn, .func (PySem.W.fnOf "_law_kinds" "_law_kinds" (defArgs sKn) (defBody sKn) (defScope sKn) .none kVKn dcKn pmKn anKn cdKn ctKn), slKn⟩)
    (cKn : PySem.W.codeIn K cdKn "_law_kinds" = true) (kKn : PySem.W.keepIn K (.ref fKn) = true)
    (aL : PySem.W.nsIn K mainGlobals "law" = some (some (.ref fL)))
    (lL : K.lookup fL = some ⟨ocL, odL, .func (PySem.W.fnOf "law" "law" (defArgs sL) (defBody sL) (defScope sL) .none kVL dcL pmL anL cdL ctL), slL⟩)
    (cL : PySem.W.codeIn K cdL "law" = true) (kL : PySem.W.keepIn K (.ref fL) = true)
    (aQ : PySem.W.findIn K (.ref CPE) "__init__" = some (some (.ref fQ))) (iQ : PySem.W.isFn K (.ref fQ) = true)
    (lQ : K.lookup fQ = some ⟨ocQ, odQ, .func (PySem.W.ksFn "__init__" "ParseError.__init__" (defArgs sQ) (defBody sQ) (defScope sQ) .none kVQ dcQ pmQ anQ (.ref cdaQ) ctQ ccQ), slQ⟩)
    (cQ : PySem.W.codeIn K (.ref cdaQ) "ParseError.__init__" = true) (kQ : PySem.W.keepIn K (.ref fQ) = true) (qQ : K.lookup cdaQ = some ⟨ckQ, cddQ, .fields vsQ, csQ⟩) (xQ : vsQ[2]? = some (.str fiQ tfQ)) (uQ : K.lookup ccQ = some ⟨lkQ, ldQ, .cell (some (.ref CPE)), lsQ⟩)
    (hsQ : PySem.W.mroIn K CPE (.ref CPE) = some true) (hmQ : PySem.W.ks_superIn K CPE CPE "__init__" = some (some (.builtin "ValueError.__init__"))) (hpQ : PySem.W.nsIn K cStatics "thirdparty.any" = some none)
    (hfQ : ((l.prog.main.file : Str) == fiQ) = true) (htQ : (l.prog.main.scope.names.lookup ("super" : Str)).isSome = false)
    (aQ2 : PySem.W.findIn K (.ref CNS) "__init__" = some (some (.ref fQ2))) (iQ2 : PySem.W.isFn K (.ref fQ2) = true)
    (lQ2 : K.lookup fQ2 = some ⟨ocQ2, odQ2, .func (PySem.W.ksFn "__init__" "NoSolution.__init__" (defArgs sQ2) (defBody sQ2) (defScope sQ2) .none kVQ2 dcQ2 pmQ2 anQ2 (.ref cdaQ2) ctQ2 ccQ2), slQ2⟩)
    (cQ2 : PySem.W.codeIn K (.ref cdaQ2) "NoSolution.__init__" = true) (kQ2 : PySem.W.keepIn K (.ref fQ2) = true) (qQ2 : K.lookup cdaQ2 = some ⟨ckQ2, cddQ2, .fields vsQ2, csQ2⟩) (xQ2 : vsQ2[2]? = some (.str fiQ2 tfQ2)) (uQ2 : K.lookup ccQ2 = some ⟨lkQ2, ldQ2, .cell (some (.ref CNS)), lsQ2⟩)
    (hsQ2 : PySem.W.mroIn K CNS (.ref CNS) = some true) (hmQ2 : PySem.W.ks_superIn K CNS CNS "__init__" = some (some (.builtin "ValueError.__init__"))) (hpQ2 : PySem.W.nsIn K cStatics "thirdparty.any" = some none)
    (hfQ2 : ((l.prog.main.file : Str) == fiQ2) = true) (htQ2 : (l.prog.main.scope.names.lookup ("super" : Str)).isSome = false)
    (aRE : PySem.W.nsIn K mainGlobals "RouteError" = some (some (.ref CRE))) (exRE : PySem.W.excIn K CRE [.type "ValueError", .type "Exception", .type "BaseException", .type "object"] "ValueError.__new__" = true) (ekRE : PySem.W.keepIn K (.ref CRE) = true) (ebRE : PySem.W.subIn K (.ref CRE) (.type "BaseException") = some true) (etRE : PySem.W.typeIn K (.ref CRE) = some (.type "type")) (eiRE : PySem.W.isClsIn K CRE = true) (ehRE : PySem.W.hasDictIn K CRE = true)
    (aIM : PySem.W.nsIn K mainGlobals "InvalidMap" = some (some (.ref CIM))) (exIM : PySem.W.excIn K CIM [.type "ValueError", .type "Exception", .type "BaseException", .type "object"] "ValueError.__new__" = true) (ekIM : PySem.W.keepIn K (.ref CIM) = true) (ebIM : PySem.W.subIn K (.ref CIM) (.type "BaseException") = some true) (etIM : PySem.W.typeIn K (.ref CIM) = some (.type "type")) (eiIM : PySem.W.isClsIn K CIM = true) (ehIM : PySem.W.hasDictIn K CIM = true)
    (aIX : PySem.W.nsIn K mainGlobals "InvalidPrefix" = some (some (.ref CIX))) (exIX : PySem.W.excIn K CIX [.type "ValueError", .type "Exception", .type "BaseException", .type "object"] "ValueError.__new__" = true) (ekIX : PySem.W.keepIn K (.ref CIX) = true) (ebIX : PySem.W.subIn K (.ref CIX) (.type "BaseException") = some true) (etIX : PySem.W.typeIn K (.ref CIX) = some (.type "type")) (eiIX : PySem.W.isClsIn K CIX = true) (ehIX : PySem.W.hasDictIn K CIX = true)
    (aUR : PySem.W.nsIn K mainGlobals "UnknownRow" = some (some (.ref CUR))) (exUR : PySem.W.excIn K CUR [.type "ValueError", .type "Exception", .type "BaseException", .type "object"] "ValueError.__new__" = true) (ekUR : PySem.W.keepIn K (.ref CUR) = true) (ebUR : PySem.W.subIn K (.ref CUR) (.type "BaseException") = some true) (etUR : PySem.W.typeIn K (.ref CUR) = some (.type "type")) (eiUR : PySem.W.isClsIn K CUR = true) (ehUR : PySem.W.hasDictIn K CUR = true)
    (aIA : PySem.W.nsIn K mainGlobals "InvalidAddress" = some (some (.ref CIA))) (exIA : PySem.W.excIn K CIA [.type "ValueError", .type "Exception", .type "BaseException", .type "object"] "ValueError.__new__" = true) (ekIA : PySem.W.keepIn K (.ref CIA) = true) (ebIA : PySem.W.subIn K (.ref CIA) (.type "BaseException") = some true) (etIA : PySem.W.typeIn K (.ref CIA) = some (.type "type")) (eiIA : PySem.W.isClsIn K CIA = true) (ehIA : PySem.W.hasDictIn K CIA = true)
    (aIP : PySem.W.nsIn K mainGlobals "InvalidPair" = some (some (.ref CIP))) (exIP : PySem.W.excIn K CIP [.type "ValueError", .type "Exception", .type "BaseException", .type "object"] "ValueError.__new__" = true) (ekIP : PySem.W.keepIn K (.ref CIP) = true) (ebIP : PySem.W.subIn K (.ref CIP) (.type "BaseException") = some true) (etIP : PySem.W.typeIn K (.ref CIP) = some (.type "type")) (eiIP : PySem.W.isClsIn K CIP = true) (ehIP : PySem.W.hasDictIn K CIP = true)
    (aIQ : PySem.W.nsIn K mainGlobals "InvalidPrices" = some (some (.ref CIQ))) (exIQ : PySem.W.excIn K CIQ [.type "ValueError", .type "Exception", .type "BaseException", .type "object"] "ValueError.__new__" = true) (ekIQ : PySem.W.keepIn K (.ref CIQ) = true) (ebIQ : PySem.W.subIn K (.ref CIQ) (.type "BaseException") = some true) (etIQ : PySem.W.typeIn K (.ref CIQ) = some (.type "type")) (eiIQ : PySem.W.isClsIn K CIQ = true) (ehIQ : PySem.W.hasDictIn K CIQ = true)
    (aUL : PySem.W.nsIn K mainGlobals "UnknownLeaf" = some (some (.ref CUL))) (exUL : PySem.W.excIn K CUL [.type "ValueError", .type "Exception", .type "BaseException", .type "object"] "ValueError.__new__" = true) (ekUL : PySem.W.keepIn K (.ref CUL) = true) (ebUL : PySem.W.subIn K (.ref CUL) (.type "BaseException") = some true) (etUL : PySem.W.typeIn K (.ref CUL) = some (.type "type")) (eiUL : PySem.W.isClsIn K CUL = true) (ehUL : PySem.W.hasDictIn K CUL = true)
    (aUV : PySem.W.nsIn K mainGlobals "UnknownVersion" = some (some (.ref CUV))) (exUV : PySem.W.excIn K CUV [.type "ValueError", .type "Exception", .type "BaseException", .type "object"] "ValueError.__new__" = true) (ekUV : PySem.W.keepIn K (.ref CUV) = true) (ebUV : PySem.W.subIn K (.ref CUV) (.type "BaseException") = some true) (etUV : PySem.W.typeIn K (.ref CUV) = some (.type "type")) (eiUV : PySem.W.isClsIn K CUV = true) (ehUV : PySem.W.hasDictIn K CUV = true)
    (aNU : PySem.W.nsIn K mainGlobals "NothingToUndo" = some (some (.ref CNU))) (exNU : PySem.W.excIn K CNU [.type "ValueError", .type "Exception", .type "BaseException", .type "object"] "ValueError.__new__" = true) (ekNU : PySem.W.keepIn K (.ref CNU) = true) (ebNU : PySem.W.subIn K (.ref CNU) (.type "BaseException") = some true) (etNU : PySem.W.typeIn K (.ref CNU) = some (.type "type")) (eiNU : PySem.W.isClsIn K CNU = true) (ehNU : PySem.W.hasDictIn K CNU = true)
    (aIN : PySem.W.nsIn K mainGlobals "InvalidName" = some (some (.ref CIN))) (exIN : PySem.W.excIn K CIN [.type "ValueError", .type "Exception", .type "BaseException", .type "object"] "ValueError.__new__" = true) (ekIN : PySem.W.keepIn K (.ref CIN) = true) (ebIN : PySem.W.subIn K (.ref CIN) (.type "BaseException") = some true) (etIN : PySem.W.typeIn K (.ref CIN) = some (.type "type")) (eiIN : PySem.W.isClsIn K CIN = true) (ehIN : PySem.W.hasDictIn K CIN = true)
    (aDN : PySem.W.nsIn K mainGlobals "DuplicateName" = some (some (.ref CDN))) (exDN : PySem.W.excIn K CDN [.type "ValueError", .type "Exception", .type "BaseException", .type "object"] "ValueError.__new__" = true) (ekDN : PySem.W.keepIn K (.ref CDN) = true) (ebDN : PySem.W.subIn K (.ref CDN) (.type "BaseException") = some true) (etDN : PySem.W.typeIn K (.ref CDN) = some (.type "type")) (eiDN : PySem.W.isClsIn K CDN = true) (ehDN : PySem.W.hasDictIn K CDN = true)
    (aUN : PySem.W.nsIn K mainGlobals "UnknownName" = some (some (.ref CUN))) (exUN : PySem.W.excIn K CUN [.type "ValueError", .type "Exception", .type "BaseException", .type "object"] "ValueError.__new__" = true) (ekUN : PySem.W.keepIn K (.ref CUN) = true) (ebUN : PySem.W.subIn K (.ref CUN) (.type "BaseException") = some true) (etUN : PySem.W.typeIn K (.ref CUN) = some (.type "type")) (eiUN : PySem.W.isClsIn K CUN = true) (ehUN : PySem.W.hasDictIn K CUN = true)
    (aUM : PySem.W.nsIn K mainGlobals "UnknownMark" = some (some (.ref CUM))) (exUM : PySem.W.excIn K CUM [.type "ValueError", .type "Exception", .type "BaseException", .type "object"] "ValueError.__new__" = true) (ekUM : PySem.W.keepIn K (.ref CUM) = true) (ebUM : PySem.W.subIn K (.ref CUM) (.type "BaseException") = some true) (etUM : PySem.W.typeIn K (.ref CUM) = some (.type "type")) (eiUM : PySem.W.isClsIn K CUM = true) (ehUM : PySem.W.hasDictIn K CUM = true)
    (aIC : PySem.W.nsIn K mainGlobals "InvalidCommand" = some (some (.ref CIC))) (exIC : PySem.W.excIn K CIC [.type "ValueError", .type "Exception", .type "BaseException", .type "object"] "ValueError.__new__" = true) (ekIC : PySem.W.keepIn K (.ref CIC) = true) (ebIC : PySem.W.subIn K (.ref CIC) (.type "BaseException") = some true) (etIC : PySem.W.typeIn K (.ref CIC) = some (.type "type")) (eiIC : PySem.W.isClsIn K CIC = true) (ehIC : PySem.W.hasDictIn K CIC = true)
    (aIL : PySem.W.nsIn K mainGlobals "InvalidLine" = some (some (.ref CIL))) (exIL : PySem.W.excIn K CIL [.type "ValueError", .type "Exception", .type "BaseException", .type "object"] "ValueError.__new__" = true) (ekIL : PySem.W.keepIn K (.ref CIL) = true) (ebIL : PySem.W.subIn K (.ref CIL) (.type "BaseException") = some true) (etIL : PySem.W.typeIn K (.ref CIL) = some (.type "type")) (eiIL : PySem.W.isClsIn K CIL = true) (ehIL : PySem.W.hasDictIn K CIL = true)
    (aPF : PySem.W.nsIn K mainGlobals "PlanFinished" = some (some (.ref CPF))) (exPF : PySem.W.excIn K CPF [.type "ValueError", .type "Exception", .type "BaseException", .type "object"] "ValueError.__new__" = true) (ekPF : PySem.W.keepIn K (.ref CPF) = true) (ebPF : PySem.W.subIn K (.ref CPF) (.type "BaseException") = some true) (etPF : PySem.W.typeIn K (.ref CPF) = some (.type "type")) (eiPF : PySem.W.isClsIn K CPF = true) (ehPF : PySem.W.hasDictIn K CPF = true)
    (aPE : PySem.W.nsIn K mainGlobals "ParseError" = some (some (.ref CPE))) (oxPE : oexB K CPE = true) (saPE : PySem.W.findIn K (.ref CPE) "__setattr__" = some (some (.builtin "object.__setattr__"))) (ekPE : PySem.W.keepIn K (.ref CPE) = true) (ebPE : PySem.W.subIn K (.ref CPE) (.type "BaseException") = some true) (etPE : PySem.W.typeIn K (.ref CPE) = some (.type "type")) (eiPE : PySem.W.isClsIn K CPE = true) (ehPE : PySem.W.hasDictIn K CPE = true) (hvPE : PySem.W.subIn K (.ref CPE) (.type "ValueError") = some true)
    (aNS : PySem.W.nsIn K mainGlobals "NoSolution" = some (some (.ref CNS))) (oxNS : oexB K CNS = true) (saNS : PySem.W.findIn K (.ref CNS) "__setattr__" = some (some (.builtin "object.__setattr__"))) (ekNS : PySem.W.keepIn K (.ref CNS) = true) (ebNS : PySem.W.subIn K (.ref CNS) (.type "BaseException") = some true) (etNS : PySem.W.typeIn K (.ref CNS) = some (.type "type")) (eiNS : PySem.W.isClsIn K CNS = true) (ehNS : PySem.W.hasDictIn K CNS = true) (hvNS : PySem.W.subIn K (.ref CNS) (.type "ValueError") = some true)
    (krA : allB K CRE [CPE, CNS, CIM, CIX, CUR, CIA, CIP, CIQ, CUL, CUV, CNU, CIN, CDN, CUN, CUM, CIC, CIL, CPF] 0 [CPE, CNS, CIM, CIX, CUR, CIA, CIP, CIQ, CUL, CUV, CNU, CIN, CDN, CUN, CUM, CIC, CIL, CPF] = true)
    (krP : xfB K CPE = true)
    (krN : xfB K CNS = true)
    (noPE : PySem.W.findIn K (.ref CPE) "line" = some none)
    (noNS : PySem.W.findIn K (.ref CNS) "leaf" = some none)
    (z0 : PySem.W.nsIn K mainGlobals "list" = some none)
    (z1 : PySem.W.nsIn K mainGlobals "len" = some none)
    (z2 : PySem.W.nsIn K mainGlobals "super" = some none)
    (z3 : PySem.W.nsIn K mainGlobals "isinstance" = some none)
    (z4 : PySem.W.nsIn K mainGlobals "str" = some none)
    (z5 : PySem.W.nsIn K mainGlobals "range" = some none)
    (z6 : PySem.W.nsIn K mainGlobals "ValueError" = some none)
    : ∃ fd : FuncData, (∀ (s : Shared) (v : Value), BindsTo s fd ⟨[v], []⟩ [("script", v)]) ∧ ∀ base : Heap, K.In base → base.Ns mainGlobals mg → (∃ mm, base.Ns sysModules mm) → FnG l.prog w K mg base 4 fa fd ["script"] (spLaw K) := by
  have e := hfa.symm.trans (PySem.W.mg_of X G aL)
  cases e
  have FP := fun_mk (st := sP) lP cP kP
  have bP := FP.binds (ps := ["script"]) fun _ _ _ _ _ _ us hl => match us, hl with | [_], _ => rfl
  have gP := PySem.W.mg_of X G aP
  have FN := fun_mk (st := sN) lN cN kN
  have bN := FN.binds (ps := ["pen"]) fun _ _ _ _ _ _ us hl => match us, hl with | [_], _ => rfl
  have gN := PySem.W.mg_of X G aN
  have FDr := fun_mk (st := sDr) lDr cDr kDr
  have bDr := FDr.binds (ps := ["pen", "below"]) fun _ _ _ _ _ _ us hl => match us, hl with | [_, _], _ => rfl
  have gDr := PySem.W.mg_of X G aDr
  have FKn := fun_mk (st := sKn) lKn cKn kKn
  have bKn := FKn.binds (ps := ["error"]) fun _ _ _ _ _ _ us hl => match us, hl with | [_], _ => rfl
  have gKn := PySem.W.mg_of X G aKn
  have FL := fun_mk (st := sL) lL cL kL
  have FQ : FunS K fiQ "__init__" "ParseError.__init__" sQ fQ CPE _ := ⟨⟨_, _, _, _, _, _, _, _, _, _, _, _, _, _, _, _, _, _, rfl, lQ, cQ, qQ, xQ, uQ⟩, kQ⟩
  have bQ : L2.Binds K (PySem.W.ksFn "__init__" "ParseError.__init__" (defArgs sQ) (defBody sQ) (defScope sQ) .none kVQ dcQ pmQ anQ (.ref cdaQ) ctQ ccQ) ["self", "line"] [] := .all fun us hl => match us, hl with | [_, _], _ => rfl
  have tyQ : PySem.W.typeIn K (.ref fQ) = some (.type "function") := beq_iff_eq.mp iQ
  have FQ2 : FunS K fiQ2 "__init__" "NoSolution.__init__" sQ2 fQ2 CNS _ := ⟨⟨_, _, _, _, _, _, _, _, _, _, _, _, _, _, _, _, _, _, rfl, lQ2, cQ2, qQ2, xQ2, uQ2⟩, kQ2⟩
  have bQ2 : L2.Binds K (PySem.W.ksFn "__init__" "NoSolution.__init__" (defArgs sQ2) (defBody sQ2) (defScope sQ2) .none kVQ2 dcQ2 pmQ2 anQ2 (.ref cdaQ2) ctQ2 ccQ2) ["self", "leaf"] [] := .all fun us hl => match us, hl with | [_, _], _ => rfl
  have tyQ2 : PySem.W.typeIn K (.ref fQ2) = some (.type "function") := beq_iff_eq.mp iQ2
  have gRE := PySem.W.mg_of X G aRE
  have ERE : ExF K CRE := ⟨exRE, ekRE, ebRE, etRE, eiRE⟩
  have gIM := PySem.W.mg_of X G aIM
  have EIM : ExF K CIM := ⟨exIM, ekIM, ebIM, etIM, eiIM⟩
  have gIX := PySem.W.mg_of X G aIX
  have EIX : ExF K CIX := ⟨exIX, ekIX, ebIX, etIX, eiIX⟩
  have gUR := PySem.W.mg_of X G aUR
  have EUR : ExF K CUR := ⟨exUR, ekUR, ebUR, etUR, eiUR⟩
  have gIA := PySem.W.mg_of X G aIA
  have EIA : ExF K CIA := ⟨exIA, ekIA, ebIA, etIA, eiIA⟩
  have gIP := PySem.W.mg_of X G aIP
  have EIP : ExF K CIP := ⟨exIP, ekIP, ebIP, etIP, eiIP⟩
  have gIQ := PySem.W.mg_of X G aIQ
  have EIQ : ExF K CIQ := ⟨exIQ, ekIQ, ebIQ, etIQ, eiIQ⟩
  have gUL := PySem.W.mg_of X G aUL
  have EUL : ExF K CUL := ⟨exUL, ekUL, ebUL, etUL, eiUL⟩
  have gUV := PySem.W.mg_of X G aUV
  have EUV : ExF K CUV := ⟨exUV, ekUV, ebUV, etUV, eiUV⟩
  have gNU := PySem.W.mg_of X G aNU
  have ENU : ExF K CNU := ⟨exNU, ekNU, ebNU, etNU, eiNU⟩
  have gIN := PySem.W.mg_of X G aIN
  have EIN : ExF K CIN := ⟨exIN, ekIN, ebIN, etIN, eiIN⟩
  have gDN := PySem.W.mg_of X G aDN
  have EDN : ExF K CDN := ⟨exDN, ekDN, ebDN, etDN, eiDN⟩
  have gUN := PySem.W.mg_of X G aUN
  have EUN : ExF K CUN := ⟨exUN, ekUN, ebUN, etUN, eiUN⟩
  have gUM := PySem.W.mg_of X G aUM
  have EUM : ExF K CUM := ⟨exUM, ekUM, ebUM, etUM, eiUM⟩
  have gIC := PySem.W.mg_of X G aIC
  have EIC : ExF K CIC := ⟨exIC, ekIC, ebIC, etIC, eiIC⟩
  have gIL := PySem.W.mg_of X G aIL
  have EIL : ExF K CIL := ⟨exIL, ekIL, ebIL, etIL, eiIL⟩
  have gPF := PySem.W.mg_of X G aPF
  have EPF : ExF K CPF := ⟨exPF, ekPF, ebPF, etPF, eiPF⟩
  have gPE := PySem.W.mg_of X G aPE
  have OPE := oexC_of oxPE saPE ebPE etPE ekPE
  have gNS := PySem.W.mg_of X G aNS
  have ONS := oexC_of oxNS saNS ebNS etNS ekNS
  have m_list := PySem.W.mg_none_of X G z0
  have m_len := PySem.W.mg_none_of X G z1
  have m_super := PySem.W.mg_none_of X G z2
  have m_isinstance := PySem.W.mg_none_of X G z3
  have m_str := PySem.W.mg_none_of X G z4
  have m_range := PySem.W.mg_none_of X G z5
  have m_ValueError := PySem.W.mg_none_of X G z6
  refine ⟨PySem.W.fnOf "law" "law" (defArgs sLaw) (defBody sLaw) (defScope sLaw) .none kVL dcL pmL anL cdL ctL, fun s v => .of_eq rfl, fun base _ _ sys => ?_⟩
  have AC := fun j D (h : [CPE, CNS, CIM, CIX, CUR, CIA, CIP, CIQ, CUL, CUV, CNU, CIN, CDN, CUN, CUM, CIC, CIL, CPF][j]? = some D) => (by have z := allB_ok krA j D h; rw [Nat.zero_add] at z; exact z : OneC K CRE [CPE, CNS, CIM, CIX, CUR, CIA, CIP, CIQ, CUL, CUV, CNU, CIN, CDN, CUN, CUM, CIC, CIL, CPF] j D)
  have XP := xfB_ok krP
  have XN := xfB_ok krN
  have GP := (ok_pen (P := l.prog) (w := w) (base := base) (mg := mg) (k := 0) FP m_list)
  have GDr := (ok_draw (P := l.prog) (w := w) (base := base) (mg := mg) (k := 0) FDr FN bN gN m_len)
  have GQ := (ok_perr (P := l.prog) (w := w) (base := base) (mg := mg) (k := 0) FQ OPE hsQ hmQ hvPE hpQ m_super hfQ htQ noPE)
  have GQ2 := (ok_nsol (P := l.prog) (w := w) (base := base) (mg := mg) (k := 0) FQ2 ONS hsQ2 hmQ2 hvNS hpQ2 m_super hfQ2 htQ2 noNS)
  have GKn := ok_Kn (P := l.prog) (w := w) (base := base) (mg := mg) (k := 0) FKn gPE m_isinstance gNS EIM gIM EIX gIX EUR gUR EIA gIA EIP gIP EIQ gIQ EUL gUL EUV gUV ENU gNU EIN gIN EDN gDN EUN gUN EUM gUM EIC gIC EIL gIL EPF gPF
  exact (ok_L (P := l.prog) (w := w) (base := base) (mg := mg) (k := 2) FL AC XP XN noPE noNS (GP.mono (by decide)) FP bP gP (GDr.mono (by decide)) FDr bDr gDr m_str (GQ.mono (by decide)) OPE gPE aQ tyQ bQ (GQ2.mono (by decide)) ONS gNS aQ2 tyQ2 bQ2 EIM gIM EIX gIX EUR gUR EIA gIA EIP gIP EIQ gIQ EUL gUL EUV gUV ENU gNU EIN gIN EDN gDN EUN gUN EUM gUM EIC gIC EIL gIL EPF gPF m_range m_len ERE gRE m_isinstance m_ValueError (GKn.mono (by decide)) FKn bKn gKn (fun s a b => .of_eq rfl) (fun s a b => .of_eq rfl)).mono (by decide)
end Kt
open PySem PySem.W PyProof.Rows
set_option maxRecDepth 100000 in
set_option maxHeartbeats 0 in
theorem PySem.Challenge.cw_keptroutes_k01_errors_holds : PySem.Challenge.rw_keptroutes_k01_errors.Holds := by
  refine Kt.head0 ?_
  k_fill
  refine Kt.walkG (l := PySem.Challenge.rw_keptroutes_k01_errors) (n := 63) (k := 4) (x := "script") (sp := fun w => Kt.spLaw _) rfl (by decide) rfl ?him ⟨rfl, by decide, by decide⟩ (fun w h Y => PySem.W.kIn_of Y) ?F (fun _ _ a ns hl hS => ⟨a, ns, rfl, hS, hl, fun _ => rfl⟩)
  case him => rfl
  case F =>
    intro w mg fa h KX G hmg
    refine' Kt.all_mk KX G hmg ?aP ?lP ?cP ?kP ?aN ?lN ?cN ?kN ?aDr ?lDr ?cDr ?kDr ?aKn ?lKn ?cKn ?kKn ?aL ?lL ?cL ?kL ?aQ ?iQ ?lQ ?cQ ?kQ ?qQ ?xQ ?uQ ?hsQ ?hmQ ?hpQ ?hfQ ?htQ ?aQ2 ?iQ2 ?lQ2 ?cQ2 ?kQ2 ?qQ2 ?xQ2 ?uQ2 ?hsQ2 ?hmQ2 ?hpQ2 ?hfQ2 ?htQ2 ?aRE ?exRE ?ekRE ?ebRE ?etRE ?eiRE ?ehRE ?aIM ?exIM ?ekIM ?ebIM ?etIM ?eiIM ?ehIM ?aIX ?exIX ?ekIX ?ebIX ?etIX ?eiIX ?ehIX ?aUR ?exUR ?ekUR ?ebUR ?etUR ?eiUR ?ehUR ?aIA ?exIA ?ekIA ?ebIA ?etIA ?eiIA ?ehIA ?aIP ?exIP ?ekIP ?ebIP ?etIP ?eiIP ?ehIP ?aIQ ?exIQ ?ekIQ ?ebIQ ?etIQ ?eiIQ ?ehIQ ?aUL ?exUL ?ekUL ?ebUL ?etUL ?eiUL ?ehUL ?aUV ?exUV ?ekUV ?ebUV ?etUV ?eiUV ?ehUV ?aNU ?exNU ?ekNU ?ebNU ?etNU ?eiNU ?ehNU ?aIN ?exIN ?ekIN ?ebIN ?etIN ?eiIN ?ehIN ?aDN ?exDN ?ekDN ?ebDN ?etDN ?eiDN ?ehDN ?aUN ?exUN ?ekUN ?ebUN ?etUN ?eiUN ?ehUN ?aUM ?exUM ?ekUM ?ebUM ?etUM ?eiUM ?ehUM ?aIC ?exIC ?ekIC ?ebIC ?etIC ?eiIC ?ehIC ?aIL ?exIL ?ekIL ?ebIL ?etIL ?eiIL ?ehIL ?aPF ?exPF ?ekPF ?ebPF ?etPF ?eiPF ?ehPF ?aPE ?oxPE ?saPE ?ekPE ?ebPE ?etPE ?eiPE ?ehPE ?hvPE ?aNS ?oxNS ?saNS ?ekNS ?ebNS ?etNS ?eiNS ?ehNS ?hvNS ?krA ?krP ?krN ?noPE ?noNS ?z0 ?z1 ?z2 ?z3 ?z4 ?z5 ?z6
    (case aPE => k_is); (case aNS => k_is); (case aP => k_is); (case lP => k_is); (case cP => k_is); (case kP => k_is); (case aN => k_is); (case lN => k_is); (case cN => k_is); (case kN => k_is); (case aDr => k_is); (case lDr => k_is); (case cDr => k_is); (case kDr => k_is); (case aKn => k_is); (case lKn => k_is); (case cKn => k_is); (case kKn => k_is); (case aL => k_is); (case lL => k_is); (case cL => k_is); (case kL => k_is); (case aQ => k_is); (case iQ => k_is); (case lQ => k_is); (case cQ => k_is); (case kQ => k_is); (case qQ => k_is); (case xQ => first | k_is | rfl | decide +kernel); (case uQ => k_is); (case hsQ => k_is); (case hmQ => ks_is); (case hpQ => k_is); (case hfQ => first | k_is | rfl | decide +kernel); (case htQ => first | k_is | rfl | decide +kernel); (case aQ2 => k_is); (case iQ2 => k_is); (case lQ2 => k_is); (case cQ2 => k_is); (case kQ2 => k_is); (case qQ2 => k_is); (case xQ2 => first | k_is | rfl | decide +kernel); (case uQ2 => k_is); (case hsQ2 => k_is); (case hmQ2 => ks_is); (case hpQ2 => k_is); (case hfQ2 => first | k_is | rfl | decide +kernel); (case htQ2 => first | k_is | rfl | decide +kernel); (case aRE => k_is); (case exRE => k_exc); (case ekRE => k_is); (case ebRE => k_is); (case etRE => k_is); (case eiRE => k_is); (case ehRE => k_is); (case aIM => k_is); (case exIM => k_exc); (case ekIM => k_is); (case ebIM => k_is); (case etIM => k_is); (case eiIM => k_is); (case ehIM => k_is); (case aIX => k_is); (case exIX => k_exc); (case ekIX => k_is); (case ebIX => k_is); (case etIX => k_is); (case eiIX => k_is); (case ehIX => k_is); (case aUR => k_is); (case exUR => k_exc); (case ekUR => k_is); (case ebUR => k_is); (case etUR => k_is); (case eiUR => k_is); (case ehUR => k_is); (case aIA => k_is); (case exIA => k_exc); (case ekIA => k_is); (case ebIA => k_is); (case etIA => k_is); (case eiIA => k_is); (case ehIA => k_is); (case aIP => k_is); (case exIP => k_exc); (case ekIP => k_is); (case ebIP => k_is); (case etIP => k_is); (case eiIP => k_is); (case ehIP => k_is); (case aIQ => k_is); (case exIQ => k_exc); (case ekIQ => k_is); (case ebIQ => k_is); (case etIQ => k_is); (case eiIQ => k_is); (case ehIQ => k_is); (case aUL => k_is); (case exUL => k_exc); (case ekUL => k_is); (case ebUL => k_is); (case etUL => k_is); (case eiUL => k_is); (case ehUL => k_is); (case aUV => k_is); (case exUV => k_exc); (case ekUV => k_is); (case ebUV => k_is); (case etUV => k_is); (case eiUV => k_is); (case ehUV => k_is); (case aNU => k_is); (case exNU => k_exc); (case ekNU => k_is); (case ebNU => k_is); (case etNU => k_is); (case eiNU => k_is); (case ehNU => k_is); (case aIN => k_is); (case exIN => k_exc); (case ekIN => k_is); (case ebIN => k_is); (case etIN => k_is); (case eiIN => k_is); (case ehIN => k_is); (case aDN => k_is); (case exDN => k_exc); (case ekDN => k_is); (case ebDN => k_is); (case etDN => k_is); (case eiDN => k_is); (case ehDN => k_is); (case aUN => k_is); (case exUN => k_exc); (case ekUN => k_is); (case ebUN => k_is); (case etUN => k_is); (case eiUN => k_is); (case ehUN => k_is); (case aUM => k_is); (case exUM => k_exc); (case ekUM => k_is); (case ebUM => k_is); (case etUM => k_is); (case eiUM => k_is); (case ehUM => k_is); (case aIC => k_is); (case exIC => k_exc); (case ekIC => k_is); (case ebIC => k_is); (case etIC => k_is); (case eiIC => k_is); (case ehIC => k_is); (case aIL => k_is); (case exIL => k_exc); (case ekIL => k_is); (case ebIL => k_is); (case etIL => k_is); (case eiIL => k_is); (case ehIL => k_is); (case aPF => k_is); (case exPF => k_exc); (case ekPF => k_is); (case ebPF => k_is); (case etPF => k_is); (case eiPF => k_is); (case ehPF => k_is); (case oxPE => kernel_rfl); (case saPE => k_is); (case ekPE => k_is); (case ebPE => k_is); (case etPE => k_is); (case eiPE => k_is); (case ehPE => k_is); (case hvPE => k_is); (case oxNS => kernel_rfl); (case saNS => k_is); (case ekNS => k_is); (case ebNS => k_is); (case etNS => k_is); (case eiNS => k_is); (case ehNS => k_is); (case hvNS => k_is); (case noPE => k_is); (case noNS => k_is); (case z0 => k_is); (case z1 => k_is); (case z2 => k_is); (case z3 => k_is); (case z4 => k_is); (case z5 => k_is); (case z6 => k_is); (case krA => kernel_rfl); (case krP => kernel_rfl); (case krN => kernel_rfl)

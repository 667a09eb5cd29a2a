import PyProof.Rows.All
import Wide.All
import OpenK.AllK
import Wide.FinOn
import HandS.ForMost
import HandS.Codes
import HandS.IsInst
import HandS.StrMore
import HandS.DictComp
import HandS.Walk
import HandS.Style
import HandS.Conv
import PyProof.ReprRoads
import HandS.Strs
import HandS.SetFor
import HandS.ClsMeth
import HandS.Property
import HandS.AnyAll
import PyProof.Rows.SortShellAny
import KE.RegKSuper
import PyProof.DictUpdate
import HandS.SetKeys
import HandS.MakeKwOnly
import HandS.GenList
import HandS.ListItems
import HandS.GenYield
import HandS.NoneIn
import HandS.Star
import HandS.DeepEq
import PyProof.Rows.StrPins
import PyProof.Rows.StrPadWhole
import PyProof.Rows.StrPadFill
import HandS.WordsExc
import HandS.ExcOwn
import HandS.ExcIs
import HandS.ExcValue
import HandS.DictTup
import KE.SortData
import KE.KRevSl
import KE.OsRunLaw
import KE.DataMinMax
import HandS.DeepEq
import PySem.Challenge.RW_keptroutes_k06_equal_maps
set_option Elab.async false
set_option linter.all false
set_option maxRecDepth 100000
set_option maxHeartbeats 4000000
section
open PySem PySem.W PyProof.Rows
local macro_rules | `(tactic| k_head) => `(tactic| k_headL)
set_option maxHeartbeats 0 in
open_top Kt.head0 for PySem.Challenge.rw_keptroutes_k06_equal_maps
end
namespace Kt
open PySem PySem.Spec PyProof.Rows L2
/-! ### defs that may call repr: no repr is under way around them -/
structure FnG (P : Program) (w : World) (K : PySem.W.Frag) (mg : Str → Option Value) (base : Heap) (k : Nat) (f : Addr) (fd : FuncData) (ps : List Str) (sp : Sp) : Prop where
  many : ∀ vs H Q E, sp vs H Q E → vs.length = ps.length
  go : ∀ (A : Around), A.guards = some [] → ∀ (outer : List Env) (s : Shared) (H : Hp) (args : Args) (us : List Value) (vs : List V) (Q : VK), Room k A → Env0 P w K mg base A outer s H →
    BindsTo s fd args (ps.zip us) → Vals vs us → sp vs H Q E0 → codeAny (model P w) A (.call (.ref f) args) (CR CX0 outer P w H s Q E0) s
theorem FnG.mono {P : Program} {w : World} {K : PySem.W.Frag} {mg : Str → Option Value} {base : Heap} {j k : Nat} {f : Addr} {fd : FuncData} {ps : List Str} {sp : Sp} (F : FnG P w K mg base j f fd ps sp) (h : j ≤ k) : FnG P w K mg base k f fd ps sp :=
  ⟨F.many, fun A g outer s H args us vs Q hr => F.go A g outer s H args us vs Q (hr.mono h)⟩
section
variable {P : Program} {w : World} {K : PySem.W.Frag} {mg : Str → Option Value} {base : Heap}
/-- a def's promise, from its body, where no repr is under way -/
theorem okG {x qual : Str} {st : Stmt} {f : Addr} {fd : FuncData} {N ps : List Str} {k : Nat} {sp : Sp} (F : Fun K x qual st f fd) (S : FnScope N ps (defScope st)) (many : ∀ vs H Q E, sp vs H Q E → vs.length = ps.length)
    (body : ∀ (cdv : Value) (A : Around) (outer : List Env) (s : Shared) (H : Hp) (vs : List V) (Q : VK), A.guards = some [] → Room k (A.deeper (envOfC qual (defScope st) s.heap.objs.size f cdv)) → sp vs H Q E0 →
      ∃ t, PSs (cxOf CX0 P w K mg base N qual (defScope st) f cdv A outer s H E0).nox (defBody st) t ∧ t { nx := fun _ H' => Q .non H', rt := Q } (start N vs) H) : FnG P w K mg base (k + 1) f fd ps sp := by
  obtain ⟨oc, od, kV, doc, pm, an, cdv, ct, osl, rfl, lk, hcd⟩ := F.ex
  refine ⟨many, fun A g outer s H args us vs Q room e0 bind rel want => ?_⟩
  have old : ∀ b o, base.get? b = some o → s.heap.get? b = some o := fun b o e => (e0.bs b o e).1
  have KX : K.In s.heap := e0.mod.kin.keeps old
  have lim : s.heap.NoLimit := e0.mod.nolimit.keeps old
  have kinds : ∀ y ∈ ps.zip us, (defScope st).names.lookup y.1 = some .local ∨ ((defScope st).names.lookup y.1 = some .cell ∧ ((cellsFrom (s.heap.objs.size + 1) (defScope st).names []).lookup y.1).isSome = true) := by
    rintro ⟨n, v⟩ hy
    rcases S.par n (List.of_mem_zip hy).1 with q | q
    · exact .inl q
    · exact .inr ⟨q, PySem.W.cellsFrom_some _ _ _ (.inl q)⟩
  refine codeAny_call_function room.depth (KX _ _ lk) rfl S.co S.gen rfl (PySem.W.codeRec_of KX hcd) (bind _ _ _ _ (wpAny_newFunctionEnv_cells S.kind kinds fun env he s1 x => ?_))
  subst he
  obtain ⟨t, ht, hq⟩ := body cdv A outer s H vs Q g (room.deeper _) want
  have I := inv_start (CX := CX0) (E := E0) S room.hd e0 (many _ _ _ _ want) rel x
  refine ⟨lim.keeps x.toInCall.keep, codeAny_func (wpAny_mono (ht.nox.run [] s1 (start N vs) H _ I hq) (fun fl s' hs => ?_) fun e s' hs => hs)⟩
  cases fl with
  | ret u =>
    obtain ⟨v, σ', H', J, rv, q⟩ := hs
    exact ⟨v, H', J.os, J.bare, J.base, J.hok, rv, q⟩
  | next =>
    obtain ⟨σ', H', J, q⟩ := hs
    exact ⟨V.non, H', J.os, J.bare, J.base, J.hok, rfl, q⟩
  | brk =>
    obtain ⟨_, _, _, q⟩ := hs
    exact q.elim
  | cont =>
    obtain ⟨_, _, _, q⟩ := hs
    exact q.elim
end
/-- f(a, ..) of such a def, within such a def -/
theorem pe_callG {X : Cx} {k : Nat} {f : Addr} {fd : FuncData} {ps : List Str} {sp : Sp} {x : Str} {p pos : Pos} {e : Expr} {es : List Expr} {t : TA} (F : FnG X.prog X.w X.K X.mg X.base k f fd ps sp) (g : X.A.guards = some []) (hr : Room k X.A) (hg : Gl X x) (hm : X.mg x = some (.ref f))
    (hk : PySem.W.keepIn X.K (.ref f) = true) (hb : Binds X.K fd ps []) (ha : PA X (e :: es) t) (hdb : (x == ("__debug__" : Str)) = false := by decide)
    (he : starEach (e :: es) X.env = (false, eval e X.env) :: starEach es X.env := by rfl) (hpl : (backTo pos (starEach es X.env)).any (·.1) = false := by rfl) : PE X (.Call (.Name x p) (e :: es) [] pos) (tCall sp [] E0 t) := by
  constructor
  intro pins s σ H Q I h
  refine wpAny_Call_Name_kw (ld_glob I hg hm (PySem.W.callWith_K (h₀ := X.base) I.ok.mod.kin hk (thn (ha.run pos pins s σ H _ I h) ?_) he hpl) hdb)
  rintro us s1 ⟨vs, H1, I1, r, q⟩
  refine ⟨I1.kIn, ?_⟩
  have r2 : Vals (vs ++ []) (us ++ []) := r.append .nil
  have hl : (us ++ []).length = ps.length := by rw [← r2.length]; exact F.many _ _ _ _ q
  refine wpAny_call (codeAny_mono (F.go X.A g X.stack s1 H1 ⟨us, []⟩ (us ++ []) (vs ++ []) Q hr I1.env0 (hb s1 us I1.kIn hl) r2 q) fun res s' hq => ?_)
  match res, hq with
  | .ok (.ret u), hq => exact I1.after hq
/-! ### the end of a law whose promise is of this kind -/
theorem law_callG {P : Program} {w : World} {K : PySem.W.Frag} {mg mb : Str → Option Value} {k : Nat} {fa a : Addr} {fd : FuncData} {x : Str} {sp : Sp} {s₁ : Shared} {vs : List Value} {ns : List Int}
    (KX : K.In s₁.heap) (hns : s₁.heap.Ns mainGlobals mg) (hb : s₁.heap.Ns builtinsNs mb) (hbb : ∀ x : Str, x ≠ "__name__" → mb x = bootBuiltins x) (hlim : s₁.heap.NoLimit) (hsys : ∃ mm, s₁.heap.Ns sysModules mm) (hg : s₁.gens = #[])
    (ha : s₁.heap.get? a = some { cls := .type "list", data := .seq vs.toArray }) (hi : IntsAre vs ns) (hl : ns.length ≤ sizeLine) (hr : Room k callerA)
    (F : ∀ base : Heap, K.In base → base.Ns mainGlobals mg → (∃ mm, base.Ns sysModules mm) → FnG P w K mg base k fa fd [x] sp) (hbind : ∀ (s : Shared) (u : Value), BindsTo s fd ⟨[u], []⟩ [(x, u)])
    (hsp : ∀ H : Hp, SqL K H a (ns.map V.int) → sp [.ref a] H (fun v _ => v = .bl true) E0) :
    codeAny (model P w) callerA (.call (.ref fa) ⟨[.ref a], []⟩) (fun r s' => r = .ok (.ret (.bool true)) ∧ OldK s₁.heap s'.heap ∧ s'.os = s₁.os ∧ AllBare s'.gens) s₁ := by
  have rv := vals_ints hi
  have lenV := hi.length
  have main : ∀ H : Hp, SqL K H a (ns.map V.int) → HOk P w H s₁.heap → (∀ b, H b ≠ none → b = a ∧ K.lookup a = none ∧ ∃ u, H b = some (.frz { cls := .type "list", data := .seq vs.toArray } u)) →
      codeAny (model P w) callerA (.call (.ref fa) ⟨[.ref a], []⟩) (fun r s' => r = .ok (.ret (.bool true)) ∧ OldK s₁.heap s'.heap ∧ s'.os = s₁.os ∧ AllBare s'.gens) s₁ := by
    intro H hS ok only
    have free : ∀ {b : Addr} {o : Obj}, s₁.heap.get? b = some o → (H b ≠ none → False) → (hidT s₁.heap H).get? b = some o := fun {b o} e n => hidT_get e (by
      cases q : H b with
      | none => rfl
      | some u => exact (n (by rw [q]; exact fun z => nomatch z)).elim)
    have dct : ∀ {b : Addr} {m : Str → Option Value}, s₁.heap.Ns b m → (hidT s₁.heap H).Ns b m := by
      rintro b m ⟨o, es, ep, e, d, r⟩
      refine ⟨o, es, ep, free e fun n => ?_, d, r⟩
      obtain ⟨rfl, _, _⟩ := only b n
      rw [ha] at e
      cases e
      cases d
    have kin : K.In (hidT s₁.heap H) := fun b o e => free (KX b o e) fun n => by
      obtain ⟨rfl, z, _⟩ := only b n
      rw [z] at e
      cases e
    have mod : Mod K mg (hidT s₁.heap H) := ⟨kin, dct hns, ⟨mb, dct hb, hbb⟩, by obtain ⟨mc, h1, h2⟩ := hlim; exact ⟨mc, dct h1, h2⟩⟩
    have sys : ∃ mm, (hidT s₁.heap H).Ns sysModules mm := by obtain ⟨mm, h⟩ := hsys; exact ⟨mm, dct h⟩
    have env : Env0 P w K mg (hidT s₁.heap H) callerA [] s₁ H := ⟨rfl, mod, fun _ _ => of_hidT, Nat.le_of_eq (hidT_size _ _), trivial, fun _ hb => absurd hb List.not_mem_nil, ok, .of_eq hg⟩
    refine codeAny_mono ((F _ kin (dct hns) sys).go callerA rfl [] s₁ H ⟨[.ref a], []⟩ [.ref a] [.ref a] _ hr env (hbind s₁ (.ref a)) (.cons rfl .nil) (hsp H hS)) fun r s' h => ?_
    match r, h with
    | .ok (.ret u), ⟨v, H', os, bare, un, ok', rel, q⟩ =>
      subst q
      cases (show u = Value.bool true from rel)
      refine ⟨rfl, OldK.of_keep fun b o e => ?_, os, bare⟩
      cases q : H b with
      | none => exact un.keep b o e q (fun z => nomatch z) fun z => nomatch z
      | some u =>
        obtain ⟨rfl, _, u', z⟩ := only b (by rw [q]; exact fun z => nomatch z)
        rw [ha] at e
        cases e
        exact (ok' b _ (un.frzs b _ _ z)).1
  cases hk : K.lookup a with
  | some o =>
    have e := KX a o hk
    rw [ha] at e
    cases e
    exact main (fun _ => none) (.inr ⟨_, vs.toArray, _, hk, rfl, rfl, rfl, by rw [List.size_toArray, lenV]; exact hl, rv⟩) (fun b u z => nomatch (show (none : Option HO) = some u from z)) fun b z => absurd rfl z
  | none =>
    refine main (fun b => if b = a then some (.frz { cls := .type "list", data := .seq vs.toArray } (.lst (ns.map V.int))) else none) (.inl (.inr ⟨_, if_pos rfl⟩)) (fun b u z => ?_) fun b z => ?_
    · by_cases q : b = a
      · dsimp only at z
        rw [if_pos q] at z
        cases z
        rw [q]
        exact ⟨ha, by rw [List.length_map]; exact hl, vs, _, rv, ha⟩
      · dsimp only at z
        rw [if_neg q] at z
        cases z
    · by_cases q : b = a
      · exact ⟨q, hk, _, if_pos q⟩
      · exact absurd (if_neg q) z
theorem walkG {l : PySem.W.OpenLaw} {n k : Nat} {q : Program} {loose : List Str} {XP : (Str → Option Value) → Heap → Prop} {YP : World → Heap → Prop} {d : DefRec} {K : Params → PySem.W.Frag} {sp : World → Sp} {x : Str} (hn : l.most = some n) (hn2 : n ≤ sizeLine) (hdf : d.params.defaults = [])
    (him : importsNone q = true) (hr : Room k callerA) (hY : ∀ (w : World) (h : Heap), YP w h → (K w.params).In h)
    (F : ∀ (w : World) (mg : Str → Option Value) (fa : Addr) (h : Heap), (K w.params).In h → h.Ns mainGlobals mg → mg d.name = some (.ref fa) →
      ∃ fd : FuncData, (∀ (s : Shared) (u : Value), BindsTo s fd ⟨[u], []⟩ [(x, u)]) ∧ ∀ base : Heap, (K w.params).In base → base.Ns mainGlobals mg → (∃ mm, base.Ns sysModules mm) → FnG l.prog w (K w.params) mg base k fa fd [x] (sp w))
    (hsp : ∀ (w : World) (H : Hp) (a : Addr) (ns : List Int), ns.length ≤ n → SqL (K w.params) H a (ns.map V.int) → sp w [.ref a] H (fun v _ => v = .bl true) E0) : PySem.W.WalkO q loose XP YP l.row.toRowW d [] (fun f vs => PySem.call f vs) :=
  Att.attach_call hn hdf fun w _ _ mg _ fa _ _ _ _ a _ ns G Y _ _ _ hmg hobj hints hlen hg => by
    have KX := hY w _ Y
    obtain ⟨fd, hb, hF⟩ := F w mg fa _ KX G.T.g hmg
    obtain ⟨mm, hm, _⟩ := (G.T.seer him).mods
    exact law_callG KX G.T.g G.T.b G.T.builtins G.T.nolimit ⟨mm, hm⟩ hg hobj hints (Nat.le_trans hlen hn2) hr hF hb fun H hS => hsp w H a ns hlen hS
/-! ### repr of data: none, bools, ints, texts, lists, tuples, dicts by ints and texts -/
def keyD : Key → PyData
  | .inl i => .int i
  | .inr x => .str x
mutual
/-- in the heap H the value is this data -/
inductive Dr (K : PySem.W.Frag) (H : Hp) (N : Addr → Prop) : V → PyData → Prop
  | non : Dr K H N .non .none
  | bl (b : Bool) : Dr K H N (.bl b) (.bool b)
  | int (i : Int) : Dr K H N (.int i) (.int i)
  | str (x : Str) : Dr K H N (.str x) (.str x)
  | lst {a : Addr} {xs : List V} {ds : List PyData} (n : N a) (h : SqL K H a xs) (all : DrAll K H N xs ds) : Dr K H N (.ref a) (.list ds)
  | tup {a : Addr} {xs : List V} {ds : List PyData} (n : N a) (h : SqT K H a xs) (all : DrAll K H N xs ds) : Dr K H N (.ref a) (.tuple ds)
  | dic {a : Addr} {kvs : List (Key × V)} {ds : List (PyData × PyData)} (n : N a) (h : Rd H a (.dK kvs)) (all : DrKv K H N kvs ds) : Dr K H N (.ref a) (.dict ds)
inductive DrAll (K : PySem.W.Frag) (H : Hp) (N : Addr → Prop) : List V → List PyData → Prop
  | nil : DrAll K H N [] []
  | cons {v : V} {vs : List V} {d : PyData} {ds : List PyData} (h : Dr K H N v d) (t : DrAll K H N vs ds) : DrAll K H N (v :: vs) (d :: ds)
inductive DrKv (K : PySem.W.Frag) (H : Hp) (N : Addr → Prop) : List (Key × V) → List (PyData × PyData) → Prop
  | nil : DrKv K H N [] []
  | cons {k : Key} {v : V} {kvs : List (Key × V)} {d : PyData} {ds : List (PyData × PyData)} (h : Dr K H N v d) (t : DrKv K H N kvs ds) : DrKv K H N ((k, v) :: kvs) ((keyD k, d) :: ds)
end
mutual
theorem Dr.move {K : PySem.W.Frag} {H H' : Hp} {N N' : Addr → Prop} (k : ∀ a o, N a → H a = some o → H' a = some o) (m : ∀ a, N a → N' a) : ∀ {v : V} {d : PyData}, Dr K H N v d → Dr K H' N' v d
  | _, _, .non => .non
  | _, _, .bl b => .bl b
  | _, _, .int i => .int i
  | _, _, .str x => .str x
  | _, _, .lst (a := a) n h all => .lst (m _ n) (by
    rcases h with (h | ⟨o, h⟩) | h
    · exact .inl (.inl (k _ _ n h))
    · exact .inl (.inr ⟨o, k _ _ n h⟩)
    · exact .inr h) (all.move k m)
  | _, _, .tup n h all => .tup (m _ n) (by
    rcases h with (h | ⟨o, h⟩) | h
    · exact .inl (.inl (k _ _ n h))
    · exact .inl (.inr ⟨o, k _ _ n h⟩)
    · exact .inr h) (all.move k m)
  | _, _, .dic n h all => .dic (m _ n) (by
    rcases h with h | ⟨o, h⟩
    · exact .inl (k _ _ n h)
    · exact .inr ⟨o, k _ _ n h⟩) (all.move k m)
theorem DrAll.move {K : PySem.W.Frag} {H H' : Hp} {N N' : Addr → Prop} (k : ∀ a o, N a → H a = some o → H' a = some o) (m : ∀ a, N a → N' a) : ∀ {vs : List V} {ds : List PyData}, DrAll K H N vs ds → DrAll K H' N' vs ds
  | _, _, .nil => .nil
  | _, _, .cons h t => .cons (h.move k m) (t.move k m)
theorem DrKv.move {K : PySem.W.Frag} {H H' : Hp} {N N' : Addr → Prop} (k : ∀ a o, N a → H a = some o → H' a = some o) (m : ∀ a, N a → N' a) : ∀ {kvs : List (Key × V)} {ds : List (PyData × PyData)}, DrKv K H N kvs ds → DrKv K H' N' kvs ds
  | _, _, .nil => .nil
  | _, _, .cons h t => .cons (h.move k m) (t.move k m)
end
theorem DrAll.len {K : PySem.W.Frag} {H : Hp} {N : Addr → Prop} : ∀ {vs : List V} {ds : List PyData}, DrAll K H N vs ds → vs.length = ds.length
  | _, _, .nil => rfl
  | _, _, .cons _ t => congrArg (· + 1) t.len
theorem DrAll.snoc {K : PySem.W.Frag} {H : Hp} {N : Addr → Prop} {v : V} {d : PyData} (h : Dr K H N v d) : ∀ {vs : List V} {ds : List PyData}, DrAll K H N vs ds → DrAll K H N (vs ++ [v]) (ds ++ [d])
  | _, _, .nil => .cons h .nil
  | _, _, .cons h1 t => .cons h1 (t.snoc h)
theorem DrAll.get {K : PySem.W.Frag} {H : Hp} {N : Addr → Prop} : ∀ {vs : List V} {ds : List PyData} {i : Nat} {v : V}, DrAll K H N vs ds → vs[i]? = some v → ∃ d, ds[i]? = some d ∧ Dr K H N v d
  | _, _, _, _, .nil, e => by simp at e
  | _, _, 0, _, .cons h _, e => ⟨_, rfl, by
    have e' := Option.some.inj e
    rw [← e']
    exact h⟩
  | _, _, i + 1, v, .cons _ t, e => t.get (i := i) (v := v) e
theorem read_key {h : Heap} {k : Key} {u : Value} (e : keyIs k u = true) : Reads h u (keyD k) [] := by
  rcases keyIs_shape e with ⟨i, t, rfl, rfl⟩ | ⟨x, t, rfl, rfl⟩
  · exact .int i t
  · exact .str x t
section
variable {X : Cx} {pins : List (Addr × Obj)} {σ : L2.St} {H : Hp} {s : Shared} {N : Addr → Prop}
theorem no_sys_list (I : Inv X pins σ H s) (sys : ∃ mm, X.base.Ns sysModules mm) {a : Addr} {o : Obj} {its : Array Value} {n : Nat} (e : s.heap.get? a = some o) (d : o.data = .seq its n) : a ≠ sysModules := by
  rintro rfl
  obtain ⟨mm, o', es, ep, e', d', _⟩ := sys
  rw [I.bk _ _ e'] at e
  cases e
  rw [d] at d'
  cases d'
mutual
theorem Dr.reads (I : Inv X pins σ H s) (sys : ∃ mm, X.base.Ns sysModules mm) : ∀ (d : PyData) (v : V) (u : Value), Dr X.K H N v d → RelV v u → ∃ as, Reads s.heap u d as ∧ sysModules ∉ as
  | .none, _, _, h, r => by
    cases h
    cases r
    exact ⟨_, Reads.none, List.not_mem_nil⟩
  | .bool b, _, _, h, r => by
    cases h
    cases r
    exact ⟨_, Reads.bool b, List.not_mem_nil⟩
  | .int i, _, _, h, r => by
    cases h
    obtain ⟨t, rfl⟩ := r
    exact ⟨_, Reads.int i t, List.not_mem_nil⟩
  | .str x, _, _, h, r => by
    cases h
    obtain ⟨t, rfl⟩ := r
    exact ⟨_, Reads.str x t, List.not_mem_nil⟩
  | .list ds, _, _, h, r => by
    cases h with
    | lst _ hs ha =>
      cases r
      obtain ⟨its, rv, ⟨o, n, ho, hc, _, hd⟩, _⟩ := I.list hs
      obtain ⟨as, hr, hn⟩ := DrAll.reads I sys ds _ its ha rv
      exact ⟨_, Reads.list ho hc hd hr, fun m => (List.mem_cons.mp m).elim (fun e => no_sys_list I sys ho hd e.symm) hn⟩
  | .tuple ds, _, _, h, r => by
    cases h with
    | tup _ hs ha =>
      cases r
      obtain ⟨its, rv, ⟨o, ho, hc, n, hd⟩, _⟩ := I.tuple hs
      obtain ⟨as, hr, hn⟩ := DrAll.reads I sys ds _ its ha rv
      exact ⟨_, Reads.tuple ho hc hd hr, hn⟩
  | .dict ds, _, _, h, r => by
    cases h with
    | dic _ hs ha =>
      cases r
      obtain ⟨_, hsys, vs, rel, o, es, ep, ho, hc, hd, _, ps, _⟩ := dk_rd I.hok hs
      obtain ⟨as, bs, h1, h2, h3, h4⟩ := DrKv.reads I sys ds _ vs es.toList ha rel ps
      refine ⟨_, Reads.dict ho hc.1 hd h1 h2, fun m => ?_⟩
      rcases List.mem_append.mp m with m | m
      · rcases List.mem_cons.mp m with e | m
        · rw [← e] at hsys
          cases hsys
        · exact h3 m
      · exact h4 m
theorem DrAll.reads (I : Inv X pins σ H s) (sys : ∃ mm, X.base.Ns sysModules mm) : ∀ (ds : List PyData) (vs : List V) (us : List Value), DrAll X.K H N vs ds → Vals vs us → ∃ as, ReadsAll s.heap us ds as ∧ sysModules ∉ as
  | [], _, _, h, r => by
    cases h
    cases r
    exact ⟨_, ReadsAll.nil, List.not_mem_nil⟩
  | d :: ds, _, _, h, r => by
    cases h with
    | cons h1 h2 =>
      cases r with
      | cons r1 r2 =>
        obtain ⟨as, q1, n1⟩ := Dr.reads I sys d _ _ h1 r1
        obtain ⟨bs, q2, n2⟩ := DrAll.reads I sys ds _ _ h2 r2
        exact ⟨_, ReadsAll.cons q1 q2, fun m => (List.mem_append.mp m).elim n1 n2⟩
theorem DrKv.reads (I : Inv X pins σ H s) (sys : ∃ mm, X.base.Ns sysModules mm) : ∀ (ds : List (PyData × PyData)) (kvs : List (Key × V)) (vs : List (Key × Value)) (es : List DictEntry), DrKv X.K H N kvs ds → KV kvs vs → Pairs (mixKind X.prog X.w) es vs →
    ∃ as bs, ReadsAll s.heap (es.map (·.key)) (ds.map (·.1)) as ∧ ReadsAll s.heap (es.map (·.val)) (ds.map (·.2)) bs ∧ sysModules ∉ as ∧ sysModules ∉ bs
  | [], _, _, _, h, r, p => by
    cases h
    cases r
    cases p
    exact ⟨_, _, ReadsAll.nil, ReadsAll.nil, List.not_mem_nil, List.not_mem_nil⟩
  | (_, d) :: ds, _, _, _, h, r, p => by
    cases h with
    | cons h1 h2 =>
      cases r with
      | cons r1 r2 =>
        cases p with
        | cons p1 p2 p3 =>
          obtain ⟨e1, e2⟩ := r1
          obtain ⟨as, q1, n1⟩ := Dr.reads I sys d _ _ h1 e2
          obtain ⟨bs, cs, q2, q3, n2, n3⟩ := DrKv.reads I sys ds _ _ _ h2 r2 p3
          have e1' : _ = _ := e1
          rw [← e1'] at p1
          refine ⟨[] ++ bs, as ++ cs, ReadsAll.cons (read_key p1) q2, ReadsAll.cons (by show Reads _ (DictEntry.val _) d as; rw [p2]; exact q1) q3, by rw [List.nil_append]; exact n2, fun m => (List.mem_append.mp m).elim n1 n3⟩
end
end
/-- repr(x) -/
def rRepr (K : PySem.W.Frag) : List V → Hp → VK → Prop := fun xs H Q => ∃ (x : V) (d : PyData) (N : Addr → Prop), xs = [x] ∧ Dr K H N x d ∧ d.showable = true ∧ d.depth ≤ 60 ∧ d.shown.length ≤ sizeLine ∧ Q (.str d.shown) H
theorem call_repr {X : Cx} (g : X.A.guards = some []) (hu : X.A.units + 64 < cLine) (sys : ∃ mm, X.base.Ns sysModules mm) : CallR X (.builtin "repr") (rRepr X.K) := by
  intro pins s σ H xs us Q I r h
  obtain ⟨x, d, N, rfl, hd, hs, hz, hl, q⟩ := h
  obtain ⟨u, rfl, r1⟩ := vals1 r
  obtain ⟨as, hr, hn⟩ := Dr.reads I sys d x u hd r1
  have fin : ∀ (u : Tok) h' tk, (∀ b o, s.heap.get? b = some o → h'.get? b = some o) → EP X pins σ Q (.str d.shown u) { s with heap := h', toks := tk } := fun u h' tk hk => ⟨.str d.shown, H, I.kept hk, ⟨u, rfl⟩, q⟩
  cases hd with
  | non =>
    cases r1
    exact PySem.P.repr_of_none (fin _ s.heap _ fun _ _ e => e)
  | bl b =>
    cases r1
    cases b <;> exact PySem.P.repr_of_bool (fin _ s.heap _ fun _ _ e => e)
  | int i =>
    obtain ⟨t, rfl⟩ := r1
    exact PySem.P.repr_of_int (of_decide_eq_true (by simpa only [PyData.showable] using hs)) (fin _ s.heap _ fun _ _ e => e)
  | str z =>
    obtain ⟨t, rfl⟩ := r1
    exact PySem.P.repr_of_str (fin _ s.heap _ fun _ _ e => e) (by simpa only [PyData.shown] using hl)
  | lst _ h1 h2 =>
    cases r1
    exact repr_of_reads' (h₀ := s.heap) hr hs (fun _ => hn) g (by omega) (fun _ _ e => e) (fun h' u tk hk => fin u h' tk hk) hl
  | tup _ h1 h2 =>
    cases r1
    exact repr_of_reads' (h₀ := s.heap) hr hs (fun _ => hn) g (by omega) (fun _ _ e => e) (fun h' u tk hk => fin u h' tk hk) hl
  | dic _ h1 h2 =>
    cases r1
    exact repr_of_reads' (h₀ := s.heap) hr hs (fun _ => hn) g (by omega) (fun _ _ e => e) (fun h' u tk hk => fin u h' tk hk) hl
/-! ### texts -/
def onlyOf (y x : Str) : Bool := x.cps.toList.all fun c => y.cps.contains c
theorem takeWhile_full {α : Type} (p : α → Bool) : ∀ l : List α, decide ((l.takeWhile p).length = l.length) = l.all p
  | [] => rfl
  | a :: r => by
    have ih := takeWhile_full p r
    rw [List.takeWhile_cons, List.all_cons]
    cases ha : p a with
    | true =>
      rw [if_pos rfl, List.length_cons, List.length_cons, ← ih]
      simp
    | false =>
      rw [if_neg Bool.false_ne_true]
      simp
theorem empty_str : ("" : Str) = ⟨#[]⟩ := by decide +kernel
theorem str_ext {x y : Str} (h : x.cps.toList = y.cps.toList) : x = y := by
  cases x
  cases y
  congr 1
  exact Array.toList_inj.mp h
theorem lstrip_empty (x y : Str) : decide (V.str (Txt.lstripChars x y) = V.str "") = onlyOf y x := by
  have e : Txt.lstripChars x y = ⟨x.cps.extract (x.cps.toList.takeWhile y.cps.contains).length x.cps.size⟩ := stripBy_eq y.cps.contains true false x
  have h := takeWhile_full (fun c => y.cps.contains c) x.cps.toList
  unfold onlyOf
  rw [← h]
  apply decide_eq_decide.mpr
  have le : (x.cps.toList.takeWhile fun c => y.cps.contains c).length ≤ x.cps.toList.length := (List.takeWhile_sublist _).length_le
  constructor
  · intro q
    have q1 : Txt.lstripChars x y = "" := V.str.inj q
    rw [e, empty_str] at q1
    have q2 : (x.cps.extract (x.cps.toList.takeWhile y.cps.contains).length x.cps.size).size = 0 := by rw [Str.mk.inj q1]; rfl
    rw [Array.size_extract] at q2
    have q3 : x.cps.toList.length = x.cps.size := Array.length_toList
    have q4 : (x.cps.toList.takeWhile y.cps.contains).length ≤ x.cps.toList.length := le
    show (x.cps.toList.takeWhile y.cps.contains).length = _
    omega
  · intro q
    have q0 : (x.cps.toList.takeWhile y.cps.contains).length = x.cps.size := by
      rw [← Array.length_toList]
      exact q
    congr 1
    rw [e, empty_str, q0]
    congr 1
    simp
/-- bits alone -/
def isBits (x : Str) : Bool := onlyOf "01" x
/-- is_prefix -/
def isPfx (v : V) (w : Int) : Bool := match v with
  | .str x => decide ((x.length : Int) ≤ w) && isBits x
  | _ => false
def isStrV : V → Bool
  | .str _ => true
  | _ => false
/-- a value whose type isinstance reads: text or not -/
def TyS (K : PySem.W.Frag) (H : Hp) (v : V) : Prop := ∃ t : String, TyX K H v (.type t) ∧ PySem.W.kitOne K (.type t) (.type "str") = some (isStrV v)
theorem kit_f {K : PySem.W.Frag} {t : String} (h : kitB t "str" = some false) : PySem.W.kitOne K (.type t) (.type "str") = some false := kit_ty h
theorem TyS.of {K : PySem.W.Frag} {H : Hp} {N : Addr → Prop} {v : V} {d : PyData} (h : Dr K H N v d) : TyS K H v := by
  cases h with
  | non => exact ⟨_, .base .non, kit_f (by decide +kernel)⟩
  | bl b => exact ⟨_, .base (.bl b), kit_f (by decide +kernel)⟩
  | int i => exact ⟨_, .base (.int i), kit_f (by decide +kernel)⟩
  | str x => exact ⟨_, .base (.str x), kit_ty (r := true) (by decide +kernel)⟩
  | lst _ h _ =>
    rcases h with (h | ⟨o, h⟩) | ⟨o, _, _, h, hc, _⟩
    · exact ⟨_, .base (.lst h), kit_f (by decide +kernel)⟩
    · exact ⟨_, .base (.frz h), kit_f (by decide +kernel)⟩
    · exact ⟨_, .kList h hc, kit_f (by decide +kernel)⟩
  | tup _ h _ =>
    rcases h with (h | ⟨o, h⟩) | ⟨o, _, _, h, hc, _⟩
    · exact ⟨_, .base (.tup h), kit_f (by decide +kernel)⟩
    · exact ⟨_, .fTuple h, kit_f (by decide +kernel)⟩
    · exact ⟨_, .kTuple h hc, kit_f (by decide +kernel)⟩
  | dic _ h _ =>
    rcases h with h | ⟨o, h⟩
    · exact ⟨_, .base (.dK h), kit_f (by decide +kernel)⟩
    · exact ⟨_, .fDict h, kit_f (by decide +kernel)⟩
/-! ### the pen -/
/-- a pen stands at p: its numbers at c, its place i, its stock s, what was appended -/
def penL (c : Addr) (i s : Int) (m : List V) : HO := .lst (.ref c :: .int i :: .int s :: m)
structure PenAt (H : Hp) (p : Addr) (n : Nat) (m : List V) (c : Addr) (ns : List Int) (i s : Int) : Prop where
  at_ : H p = some (penL c i s m)
  cells : H c = some (.lst (ns.map V.int))
  len : ns.length ≤ 60
  i0 : 0 ≤ i
  i1 : i ≤ n
  s0 : 0 ≤ s
theorem PenAt.ne {H : Hp} {p c : Addr} {n : Nat} {m : List V} {ns : List Int} {i s : Int} (h : PenAt H p n m c ns i s) : c ≠ p := fun e => by
  have h1 := h.cells
  rw [e, h.at_] at h1
  have h2 := HO.lst.inj (Option.some.inj h1)
  cases ns with
  | nil => cases h2
  | cons x r => cases (List.cons.inj h2).1
theorem PenAt.mono {H : Hp} {p c : Addr} {n k : Nat} {m : List V} {ns : List Int} {i s : Int} (h : PenAt H p n m c ns i s) (hk : n ≤ k) : PenAt H p k m c ns i s :=
  ⟨h.at_, h.cells, h.len, h.i0, by have := h.i1; omega, h.s0⟩
/-- the pen behind a draw -/
theorem PenAt.next {H : Hp} {p c : Addr} {n k : Nat} {m : List V} {ns : List Int} {i s i' s' : Int} (h : PenAt H p n m c ns i s) (h0 : 0 ≤ i') (h1 : i' ≤ k) (h2 : 0 ≤ s') : PenAt (upd H p (penL c i' s' m)) p k m c ns i' s' :=
  ⟨upd_same, by rw [upd_ne h.ne]; exact h.cells, h.len, h0, h1, h2⟩
theorem PenAt.keep {H H' : Hp} {p c : Addr} {n : Nat} {m : List V} {ns : List Int} {i s : Int} (h : PenAt H p n m c ns i s) (k : Same H H') : PenAt H' p n m c ns i s :=
  ⟨k _ _ h.at_, k _ _ h.cells, h.len, h.i0, h.i1, h.s0⟩
/-- a pen at p, its numbers at c, whatever it holds -/
def Pen (H : Hp) (p c : Addr) (n : Nat) (m : List V) : Prop := ∃ ns i s, PenAt H p n m c ns i s
theorem Pen.keep {H H' : Hp} {p c : Addr} {n : Nat} {m : List V} (h : Pen H p c n m) (k : Same H H') : Pen H' p c n m := by
  obtain ⟨ns, i, s, h⟩ := h
  exact ⟨ns, i, s, h.keep k⟩
theorem Pen.mono {H : Hp} {p c : Addr} {n k : Nat} {m : List V} (h : Pen H p c n m) (hk : n ≤ k) : Pen H p c k m := by
  obtain ⟨ns, i, s, h⟩ := h
  exact ⟨ns, i, s, h.mono hk⟩
theorem Pen.ne_p {H : Hp} {p c : Addr} {n : Nat} {m : List V} (h : Pen H p c n m) {a : Addr} (e : H a = none) : a ≠ p := by
  obtain ⟨ns, i, s, h⟩ := h
  rintro rfl
  rw [h.at_] at e
  cases e
theorem Pen.ne_c {H : Hp} {p c : Addr} {n : Nat} {m : List V} (h : Pen H p c n m) {a : Addr} (e : H a = none) : a ≠ c := by
  obtain ⟨ns, i, s, h⟩ := h
  rintro rfl
  rw [h.cells] at e
  cases e
/-- a store elsewhere -/
theorem Pen.off {H : Hp} {p c : Addr} {n : Nat} {m : List V} (h : Pen H p c n m) {a : Addr} {o : HO} (h1 : a ≠ p) (h2 : a ≠ c) : Pen (upd H a o) p c n m := by
  obtain ⟨ns, i, s, h⟩ := h
  exact ⟨ns, i, s, by rw [upd_ne h1.symm]; exact h.at_, by rw [upd_ne h2.symm]; exact h.cells, h.len, h.i0, h.i1, h.s0⟩
/-- all but p is as it was -/
def But (p : Addr) (H H' : Hp) : Prop := ∀ b o, b ≠ p → H b = some o → H' b = some o
theorem But.refl (p : Addr) (H : Hp) : But p H H := fun _ _ _ e => e
theorem But.trans {p : Addr} {H H1 H2 : Hp} (a : But p H H1) (b : But p H1 H2) : But p H H2 := fun c o n e => b c o n (a c o n e)
theorem But.of_same {p : Addr} {H H' : Hp} (h : Same H H') : But p H H' := fun b o _ e => h b o e
theorem But.upd {p : Addr} {H : Hp} {o : HO} : But p H (upd H p o) := fun b x n e => by rw [upd_ne n]; exact e
/-- what is free behind was free ahead -/
theorem But.free {p : Addr} {H H' : Hp} (e : But p H H') {a : Addr} (n : a ≠ p) (h : H' a = none) : H a = none := by
  cases q : H a with
  | none => rfl
  | some o =>
    rw [e a o n q] at h
    cases h
theorem But.seq {K : PySem.W.Frag} {p : Addr} {H H' : Hp} {a : Addr} {xs : List V} (e : But p H H') (hn : a ≠ p) (h : SqL K H a xs) : SqL K H' a xs := by
  rcases h with (h | ⟨o, h⟩) | h
  · exact .inl (.inl (e _ _ hn h))
  · exact .inl (.inr ⟨o, e _ _ hn h⟩)
  · exact .inr h
theorem PenAt.but {H H' : Hp} {p c : Addr} {n k : Nat} {m : List V} {ns : List Int} {i s i' s' : Int} (h : PenAt H p n m c ns i s) (hb : But p H H') (e : H' p = some (penL c i' s' m)) (h0 : 0 ≤ i') (h1 : i' ≤ k) (h2 : 0 ≤ s') : PenAt H' p k m c ns i' s' :=
  ⟨e, hb _ _ h.ne h.cells, h.len, h0, h1, h2⟩
/-- no call makes more turns of the pen -/
abbrev PB : Nat := 1000000000000
def spPen (K : PySem.W.Frag) : Sp := fun vs H Q _ => ∃ (a : Addr) (ns : List Int), vs = [.ref a] ∧ SqL K H a (ns.map V.int) ∧ ns.length ≤ 63 ∧ ∀ H' p c, Same H H' → H p = none → H c = none → Pen H' p c 0 [] → Q (.ref p) H'
def spNext : Sp := fun vs H Q _ => ∃ (p : Addr) (n : Nat) (m : List V) (c : Addr) (ns : List Int) (i s : Int), vs = [.ref p] ∧ PenAt H p n m c ns i s ∧ n ≤ PB ∧
  ∀ (x : Int) (H' : Hp), 0 ≤ x → But p H H' → PenAt H' p (n + 1) m c ns (i + 1) s → Q (.int x) H'
def spDraw : Sp := fun vs H Q _ => ∃ (p c : Addr) (n : Nat) (m : List V) (below : Int), vs = [.ref p, .int below] ∧ Pen H p c n m ∧ n ≤ PB ∧ 0 < below ∧ below < 1073741824 ∧
  ∀ (d : Int) (H' : Hp), 0 ≤ d → d < below → But p H H' → Pen H' p c (n + 1) m → Q (.int d) H'
theorem sixty {ns : List Int} : HT.sIx ns.length 0 none = 0 ∧ HT.sIx ns.length ns.length (some 60) ≤ 60 := by
  refine ⟨HT.sIx_none _ _, ?_⟩
  rw [show HT.sIx ns.length ns.length (some 60) = min 60 ns.length from HT.sIx_nat ns.length ns.length 60]
  omega
theorem cut60 (ns : List Int) : ∃ ms : List Int, cutV (ns.map V.int) none (some 60) = ms.map V.int ∧ ms.length ≤ 60 := by
  unfold cutV
  refine ⟨(ns.drop (HT.sIx (ns.map V.int).length 0 none)).take (HT.sIx (ns.map V.int).length (ns.map V.int).length (some 60) - HT.sIx (ns.map V.int).length 0 none), ?_, ?_⟩
  · rw [List.map_take, List.map_drop]
  · rw [List.length_take, List.length_map]
    have h := (sixty (ns := ns)).2
    omega
theorem same_upd {H : Hp} {p : Addr} {o : HO} (h : H p = none) : Same H (upd H p o) := fun b x e => by
  rw [upd_ne (ne_of_none e h)]
  exact e
theorem ix1 {a b c : V} {m : List V} : ixN (a :: b :: c :: m).length 1 = some 1 := by
  unfold ixN
  rw [if_pos (by decide), if_pos (by rw [List.length_cons, List.length_cons]; omega)]
  rfl
theorem ix2 {a b c : V} {m : List V} : ixN (a :: b :: c :: m).length 2 = some 2 := by
  unfold ixN
  rw [if_pos (by decide), if_pos (by rw [List.length_cons, List.length_cons, List.length_cons]; omega)]
  rfl
theorem dpAll_ints {K : PySem.W.Frag} {H : Hp} : ∀ ns : List Int, DpAll K H (ns.map V.int) (ns.map PyData.int)
  | [] => .nil
  | n :: r => .cons (.int n) (dpAll_ints r)
theorem eqv_nil (ns : List Int) : PyData.eqv (.list (ns.map PyData.int)) (.list []) = decide (ns = []) := by
  cases ns with
  | nil => rfl
  | cons x r => rfl
/-! ### what the reprs of small data come to -/
structure OkD (L B : Nat) (d : PyData) : Prop where
  sh : d.showable = true
  dp : d.depth ≤ L
  ln : d.shown.length ≤ B
theorem OkD.mono {L B L' B' : Nat} {d : PyData} (h : OkD L B d) (h1 : L ≤ L') (h2 : B ≤ B') : OkD L' B' d := ⟨h.sh, Nat.le_trans h.dp h1, Nat.le_trans h.ln h2⟩
theorem comma_len : ((", " : String) : Str).length = 2 := by decide +kernel
theorem join_le : ∀ ts : List Str, (Str.join ", " ts).length ≤ (ts.map fun t => t.length + 2).sum
  | [] => Nat.zero_le _
  | [x] => by
    show x.length ≤ _
    rw [List.map_cons, List.sum_cons]
    omega
  | x :: y :: r => by
    have ih := join_le (y :: r)
    show (x ++ ((", " : String) : Str) ++ Str.join ", " (y :: r)).length ≤ _
    rw [strLen_append, strLen_append, comma_len, List.map_cons, List.sum_cons]
    omega
theorem sum_le_of {l : List Str} {B : Nat} (h : ∀ t ∈ l, t.length ≤ B) : (l.map fun t => t.length + 2).sum ≤ l.length * (B + 2) := by
  induction l with
  | nil => exact Nat.zero_le _
  | cons x r ih =>
    have h1 := h x List.mem_cons_self
    have h2 := ih fun t ht => h t (List.mem_cons_of_mem _ ht)
    rw [List.map_cons, List.sum_cons, List.length_cons, Nat.succ_mul]
    omega
theorem shownAll_map : ∀ ds : List PyData, PyData.shownAll ds = ds.map PyData.shown
  | [] => PyData.shownAll_nil
  | d :: ds => by rw [PyData.shownAll_cons, shownAll_map ds, List.map_cons]
theorem showableAll_all : ∀ {ds : List PyData}, (∀ d ∈ ds, d.showable = true) → PyData.showableAll ds = true := PySem.Spec.showableAll_of
theorem depthAll_le {L : Nat} : ∀ {ds : List PyData}, (∀ d ∈ ds, d.depth ≤ L) → PyData.depthAll ds ≤ L
  | [], _ => by simp only [PyData.depthAll]; exact Nat.zero_le _
  | d :: ds, h => by
    have h1 := h d List.mem_cons_self
    have h2 := depthAll_le fun x hx => h x (List.mem_cons_of_mem _ hx)
    simp only [PyData.depthAll]
    omega
theorem OkD.list {L B n : Nat} {ds : List PyData} (hn : ds.length ≤ n) (h : ∀ d ∈ ds, OkD L B d) : OkD (L + 1) (n * (B + 2) + 2) (.list ds) := by
  refine ⟨by simp only [PyData.showable]; exact showableAll_all fun d hd => (h d hd).sh, ?_, ?_⟩
  · have := depthAll_le fun d hd => (h d hd).dp
    simp only [PyData.depth]
    omega
  · rw [PyData.shown_list, shownAll_map, strLen_append, strLen_append]
    have h1 := join_le (ds.map PyData.shown)
    have h2 := sum_le_of (l := ds.map PyData.shown) (B := B) fun t ht => by
      obtain ⟨d, hd, rfl⟩ := List.mem_map.mp ht
      exact (h d hd).ln
    rw [List.length_map] at h2
    have h3 := Nat.mul_le_mul_right (B + 2) hn
    have e1 : ((("[" : String) : Str)).length = 1 := by decide +kernel
    have e2 : ((("]" : String) : Str)).length = 1 := by decide +kernel
    omega
theorem OkD.tuple {L B n : Nat} {ds : List PyData} (hn : ds.length ≤ n) (h : ∀ d ∈ ds, OkD L B d) : OkD (L + 1) (n * (B + 2) + 3) (.tuple ds) := by
  refine ⟨by simp only [PyData.showable]; exact showableAll_all fun d hd => (h d hd).sh, ?_, ?_⟩
  · have := depthAll_le fun d hd => (h d hd).dp
    simp only [PyData.depth]
    omega
  · rw [PyData.shown_tuple, shownAll_map, strLen_append, strLen_append]
    have h1 := join_le (ds.map PyData.shown)
    have h2 := sum_le_of (l := ds.map PyData.shown) (B := B) fun t ht => by
      obtain ⟨d, hd, rfl⟩ := List.mem_map.mp ht
      exact (h d hd).ln
    rw [List.length_map] at h2
    have h3 := Nat.mul_le_mul_right (B + 2) hn
    have e1 : ((("(" : String) : Str)).length = 1 := by decide +kernel
    have e2 : (((if (ds.length == 1) = true then ",)" else ")" : String) : Str)).length ≤ 2 := by split <;> decide +kernel
    omega
theorem depthKv_le {L : Nat} : ∀ {ds : List (PyData × PyData)}, (∀ d ∈ ds, d.1.depth ≤ L ∧ d.2.depth ≤ L) → PyData.depthKv ds ≤ L
  | [], _ => by simp only [PyData.depthKv]; exact Nat.zero_le _
  | (a, b) :: ds, h => by
    have h1 : a.depth ≤ L ∧ b.depth ≤ L := h (a, b) List.mem_cons_self
    have h2 := depthKv_le fun x hx => h x (List.mem_cons_of_mem _ hx)
    simp only [PyData.depthKv]
    omega
theorem shownKv_map : ∀ ds : List (PyData × PyData), PyData.shownKv ds = ds.map fun p => p.1.shown ++ ((": " : String) : Str) ++ p.2.shown
  | [] => PyData.shownKv_nil
  | (a, b) :: ds => by rw [PyData.shownKv_cons, shownKv_map ds, List.map_cons]
theorem OkD.dict {L B C n : Nat} {ds : List (PyData × PyData)} (hn : ds.length ≤ n) (h : ∀ d ∈ ds, OkD L C d.1 ∧ OkD L B d.2) : OkD (L + 1) (n * (C + B + 4) + 2) (.dict ds) := by
  refine ⟨by simp only [PyData.showable]; exact PySem.Spec.showableKv_of fun d hd => ⟨(h d hd).1.sh, (h d hd).2.sh⟩, ?_, ?_⟩
  · have := depthKv_le fun d hd => ⟨(h d hd).1.dp, (h d hd).2.dp⟩
    simp only [PyData.depth]
    omega
  · rw [PyData.shown_dict, shownKv_map, strLen_append, strLen_append]
    have h1 := join_le (ds.map fun p => p.1.shown ++ ((": " : String) : Str) ++ p.2.shown)
    have e0 : (((": " : String) : Str)).length = 2 := by decide +kernel
    have h2 := sum_le_of (l := ds.map fun p => p.1.shown ++ ((": " : String) : Str) ++ p.2.shown) (B := C + B + 2) fun t ht => by
      obtain ⟨d, hd, rfl⟩ := List.mem_map.mp ht
      have z1 := (h d hd).1.ln
      have z2 := (h d hd).2.ln
      rw [strLen_append, strLen_append, e0]
      omega
    rw [List.length_map] at h2
    have h3 := Nat.mul_le_mul_right (C + B + 2 + 2) hn
    have e1 : ((("{" : String) : Str)).length = 1 := by decide +kernel
    have e2 : ((("}" : String) : Str)).length = 1 := by decide +kernel
    have e3 : C + B + 2 + 2 = C + B + 4 := by omega
    rw [e3] at h2 h3
    omega
/-! ### dicts made of pairs -/
theorem putK_end {kvs : List (Key × V)} {k : Key} {v : V} (h : k ∉ kvs.map (·.1)) : putK kvs k v = kvs ++ [(k, v)] := by
  unfold putK
  rw [if_neg]
  intro q
  obtain ⟨p, hp, e⟩ := List.any_eq_true.mp q
  exact h (List.mem_map.mpr ⟨p, hp, of_decide_eq_true e⟩)
theorem mergeK_nd : ∀ (more kvs : List (Key × V)), ((kvs ++ more).map (·.1)).Nodup → mergeK kvs more = kvs ++ more
  | [], kvs, _ => (List.append_nil _).symm
  | (k, v) :: r, kvs, h => by
    have e : kvs ++ (k, v) :: r = (kvs ++ [(k, v)]) ++ r := by rw [List.append_assoc]; rfl
    have hk : k ∉ kvs.map (·.1) := fun m => by
      rw [List.map_append, List.nodup_append] at h
      exact h.2.2 k m k (by rw [List.map_cons]; exact List.mem_cons_self) rfl
    show mergeK (putK kvs k v) r = _
    rw [putK_end hk, e]
    rw [e] at h
    exact mergeK_nd r _ h
theorem DrKv.zip {K : PySem.W.Frag} {H : Hp} {N : Addr → Prop} : ∀ (ks : List Key) {vs : List V} {ds : List PyData}, DrAll K H N vs ds → DrKv K H N (ks.zip vs) ((ks.map keyD).zip ds)
  | [], _, _, _ => .nil
  | _ :: _, _, _, .nil => .nil
  | k :: ks, _, _, .cons h t => .cons h (DrKv.zip ks t)
theorem nodup_zip {α β : Type} {ks : List α} (h : ks.Nodup) : ∀ vs : List β, ((ks.zip vs).map (·.1)).Nodup := fun vs => by
  have e : (ks.zip vs).map (·.1) = ks.take vs.length := by
    induction ks generalizing vs with
    | nil => cases vs <;> rfl
    | cons k ks ih =>
      cases vs with
      | nil => rfl
      | cons v vs =>
        show k :: (ks.zip vs).map (·.1) = _
        rw [ih (List.nodup_cons.mp h).2]
        rfl
  rw [e]
  exact h.sublist (List.take_sublist _ _)
/-- a comprehension without tests: the item is kept -/
theorem yes_if {σ : L2.St} {H : Hp} {A B : Hp → Prop} (h : A H) : tYes σ H fun b H3 => if b = true then A H3 else B H3 := by
  unfold tYes
  dsimp only
  rw [if_pos rfl]
  exact h
/-! ### texts made of texts -/
/-- the signs of a text -/
abbrev sg (x : Str) : List Nat := x.cps.toList
theorem sg_len (x : Str) : (sg x).length = x.length := Array.length_toList
theorem sg_app (x y : Str) : sg (x ++ y) = sg x ++ sg y := by
  show ((x.cps ++ y.cps).toList : List Nat) = _
  rw [Array.toList_append]
theorem sg_empty : sg "" = [] := by rw [show ("" : Str) = ⟨#[]⟩ from empty_str]
theorem app_empty (x : Str) : x ++ ((("" : String) : Str)) = x := str_ext (by
  show sg (x ++ _) = sg x
  rw [sg_app, sg_empty, List.append_nil])
theorem sg_join : ∀ ys : List Str, sg (Txt.join "" ys) = (ys.map sg).flatten := by
  intro ys
  show sg (Builtin.Str.glued "" ys) = _
  rw [StrLaws.glued_eq_join]
  induction ys with
  | nil => rfl
  | cons y r ih =>
    cases r with
    | nil =>
      show sg y = _
      rw [List.map_cons, List.map_nil, List.flatten_cons, List.flatten_nil, List.append_nil]
    | cons z t =>
      show sg (y ++ ((("" : String) : Str)) ++ Str.join "" (z :: t)) = _
      rw [app_empty, sg_app, ih, List.map_cons (a := y), List.flatten_cons]
/-- a text that is not long, of signs that repr writes short -/
structure Sm (n : Nat) (x : Str) : Prop where
  ln : x.length ≤ n
  ch : ∀ c ∈ sg x, c < 128
theorem Sm.mono {n m : Nat} {x : Str} (h : Sm n x) (hm : n ≤ m) : Sm m x := ⟨Nat.le_trans h.ln hm, h.ch⟩
theorem Sm.app {n m : Nat} {x y : Str} (h : Sm n x) (h' : Sm m y) : Sm (n + m) (x ++ y) := ⟨by
  rw [strLen_append]
  exact Nat.add_le_add h.ln h'.ln, fun c hc => by
  rw [sg_app] at hc
  exact (List.mem_append.mp hc).elim (h.ch c) (h'.ch c)⟩
theorem Sm.cut {n : Nat} {x : Str} (h : Sm n x) (lo hi : Option Int) : Sm n (cutS x lo hi) := ⟨Nat.le_trans (cutS_length x lo hi) h.ln, fun c hc => by
  have e : sg (cutS x lo hi) = ((sg x).drop (HT.sIx x.length 0 lo)).take (HT.sIx x.length x.length hi - HT.sIx x.length 0 lo) := rfl
  rw [e] at hc
  exact h.ch c (List.mem_of_mem_drop (List.mem_of_mem_take hc))⟩
theorem Sm.one {c : Nat} (h : c < 128) : Sm 1 ⟨#[c]⟩ := ⟨Nat.le_refl _, fun d hd => by
  have hd' : d ∈ [c] := hd
  rw [List.mem_singleton.mp hd']
  exact h⟩
theorem Sm.join {ys : List Str} (h : ∀ y ∈ ys, Sm 1 y) : Sm ys.length (Txt.join "" ys) := by
  constructor
  · rw [← sg_len, sg_join]
    induction ys with
    | nil => exact Nat.le_refl _
    | cons y r ih =>
      have h1 := (h y List.mem_cons_self).ln
      have h2 := ih fun z hz => h z (List.mem_cons_of_mem _ hz)
      rw [List.map_cons, List.flatten_cons, List.length_append, List.length_cons, sg_len]
      omega
  · intro c hc
    rw [sg_join] at hc
    obtain ⟨l, hl, hc⟩ := List.mem_flatten.mp hc
    obtain ⟨y, hy, rfl⟩ := List.mem_map.mp hl
    exact (h y hy).ch c hc
theorem Sm.ok {n B : Nat} {x : Str} (h : Sm n x) (hb : 10 * n + 2 ≤ B) : OkD 0 B (.str x) := by
  refine ⟨by simp only [PyData.showable], by simp only [PyData.depth]; exact Nat.le_refl _, ?_⟩
  rw [PyData.shown_str]
  have h1 := StrLaws.reprText_len x fun c hc => Nat.lt_of_lt_of_le (h.ch c hc) (by decide)
  have h2 := h.ln
  omega
theorem sum_ones {ys : List Str} (h : ∀ y ∈ ys, Sm 1 y) : (ys.map (·.length)).sum ≤ ys.length := by
  induction ys with
  | nil => exact Nat.le_refl _
  | cons y r ih =>
    have h1 := (h y List.mem_cons_self).ln
    have h2 := ih fun z hz => h z (List.mem_cons_of_mem _ hz)
    rw [List.map_cons, List.sum_cons, List.length_cons]
    omega
/-- text * number -/
def rMulS : R2 := fun x y H Q => ∃ z n, x = .str z ∧ y = .int n ∧ MulOk z n ∧ Q (.str (Txt.mul z n)) H
theorem op_mulS {X : Cx} : OpR X (binaryOp .Mult) rMulS := by
  intro pins s σ H x y v u Q I rx ry h
  obtain ⟨z, n, rfl, rfl, ok, q⟩ := h
  obtain ⟨t, rfl⟩ := rx
  obtain ⟨t', rfl⟩ := ry
  exact SB.mul ok fun t k => ⟨.str _, H, I.tok _, ⟨_, rfl⟩, q⟩
theorem foldl_app (l : List (Array Nat)) : ∀ a : Array Nat, (l.foldl (· ++ ·) a).toList = a.toList ++ (l.map Array.toList).flatten := by
  induction l with
  | nil => intro a; simp
  | cons x r ih =>
    intro a
    rw [List.foldl_cons, ih, Array.toList_append, List.map_cons, List.flatten_cons, List.append_assoc]
theorem mul_sm {x : Str} {n : Nat} (h : Sm 1 x) (h1 : 2 ≤ n) (hx : (x.length == 0) = false) : Sm n (Txt.mul x (n : Int)) := by
  have e : Txt.mul x (n : Int) = ⟨(List.replicate n x.cps).foldl (· ++ ·) #[]⟩ := by
    unfold Txt.mul
    rw [if_neg (by omega), hx, show ((n : Int) == 1) = false from beq_eq_false_iff_ne.mpr (by omega)]
    rfl
  have e2 : sg (Txt.mul x (n : Int)) = (List.replicate n (sg x)).flatten := by
    rw [e]
    show ((List.replicate n x.cps).foldl (· ++ ·) #[]).toList = _
    rw [foldl_app, List.map_replicate]
    rfl
  constructor
  · rw [← sg_len, e2, List.length_flatten, List.map_replicate, List.sum_replicate_nat, sg_len]
    have := h.ln
    exact Nat.le_trans (Nat.mul_le_mul_left n this) (by omega)
  · intro c hc
    rw [e2] at hc
    obtain ⟨l, hl, hc⟩ := List.mem_flatten.mp hc
    rw [(List.mem_replicate.mp hl).2] at hc
    exact h.ch c hc
/-- bit in ['0', '1'] -/
theorem bit_in (c : Nat) : inV (.str ⟨#[c]⟩) [.str "0", .str "1"] = (("01" : Str)).cps.contains c := by
  have e0 : ("0" : Str) = ⟨#[48]⟩ := by decide +kernel
  have e1 : ("1" : Str) = ⟨#[49]⟩ := by decide +kernel
  have e2 : (("01" : Str)).cps = #[48, 49] := by decide +kernel
  have eq1 : ∀ d : Nat, eqV (.str ⟨#[d]⟩) (.str ⟨#[c]⟩) = (c == d) := fun d => by
    show ((⟨#[d]⟩ : Str) == ⟨#[c]⟩) = (c == d)
    rw [Bool.eq_iff_iff, beq_iff_eq, beq_iff_eq]
    constructor
    · intro h
      have h2 : ([d] : List Nat) = [c] := congrArg Array.toList (Str.mk.inj h)
      exact (List.cons.inj h2).1.symm
    · rintro rfl
      rfl
  rw [e0, e1, e2]
  show (eqV (.str ⟨#[48]⟩) (.str ⟨#[c]⟩) || (eqV (.str ⟨#[49]⟩) (.str ⟨#[c]⟩) || false)) = _
  rw [eq1, eq1, Bool.eq_iff_iff]
  simp
/-! ### rows -/
theorem bits_sm {x : Str} (h : isBits x = true) : ∀ c ∈ sg x, c < 128 := fun c hc => by
  have h1 := List.all_eq_true.mp h c hc
  have e2 : (("01" : Str)).cps = #[48, 49] := by decide +kernel
  rw [e2] at h1
  simp at h1
  omega
theorem bits_iff {x : Str} : isBits x = true ↔ ∀ c ∈ sg x, c = 48 ∨ c = 49 := by
  have e2 : (("01" : Str)).cps = #[48, 49] := by decide +kernel
  unfold isBits onlyOf
  rw [e2, List.all_eq_true]
  constructor
  · intro h c hc
    have := h c hc
    simp at this
    omega
  · intro h c hc
    have := h c hc
    simp
    omega
theorem bits_app {x y : Str} (h : isBits x = true) (h' : isBits y = true) : isBits (x ++ y) = true := bits_iff.mpr fun c hc => by
  rw [sg_app] at hc
  exact (List.mem_append.mp hc).elim (bits_iff.mp h c) (bits_iff.mp h' c)
theorem bits_sub {x y : Str} (h : isBits x = true) (k : ∀ c ∈ sg y, c ∈ sg x) : isBits y = true := bits_iff.mpr fun c hc => bits_iff.mp h c (k c hc)
theorem sg_cut (x : Str) (lo hi : Option Int) : sg (cutS x lo hi) = ((sg x).drop (HT.sIx x.length 0 lo)).take (HT.sIx x.length x.length hi - HT.sIx x.length 0 lo) := rfl
theorem bits_cut {x : Str} (h : isBits x = true) (lo hi : Option Int) : isBits (cutS x lo hi) = true := bits_sub h fun c hc => by
  rw [sg_cut] at hc
  exact List.mem_of_mem_drop (List.mem_of_mem_take hc)
/-- x[:k] -/
theorem sg_take (x : Str) (k : Nat) : sg (cutS x none (some (k : Int))) = (sg x).take k := by
  rw [sg_cut, HT.sIx_none, HT.sIx_nat, List.drop_zero, Nat.sub_zero, ← sg_len]
  rcases Nat.le_total k (sg x).length with h | h
  · rw [Nat.min_eq_left h]
  · rw [Nat.min_eq_right h, List.take_length, List.take_of_length_le h]
theorem take_len (x : Str) (k : Nat) : (cutS x none (some (k : Int))).length ≤ k := by
  rw [← sg_len, sg_take, List.length_take]
  omega
theorem bits_empty : isBits "" = true := by decide +kernel
theorem flat_str (xs : List Str) : (xs.map V.str).all flatV = true := by
  induction xs with
  | nil => rfl
  | cons x r ih => exact ih
theorem inV_str (x : Str) (xs : List Str) : inV (.str x) (xs.map V.str) = decide (x ∈ xs) := by
  induction xs with
  | nil => rfl
  | cons y r ih =>
    have e : inV (.str x) ((y :: r).map V.str) = ((y == x) || inV (.str x) (r.map V.str)) := rfl
    rw [e, ih, Bool.eq_iff_iff, Bool.or_eq_true, beq_iff_eq, decide_eq_true_iff, decide_eq_true_iff, List.mem_cons]
    exact ⟨fun h => h.imp Eq.symm id, fun h => h.imp Eq.symm id⟩
theorem dpAll_strs {K : PySem.W.Frag} {H : Hp} : ∀ xs : List Str, DpAll K H (xs.map V.str) (xs.map PyData.str)
  | [] => .nil
  | x :: r => .cons (.str x) (dpAll_strs r)
theorem shaped_strs {xs : List Str} (h : ∀ x ∈ xs, isBits x = true) : SeqAt.shaped (.list (xs.map PyData.str)) = true := by
  have h1 : PyData.canLayAll0 (xs.map PyData.str) = true := by
    induction xs with
    | nil => simp only [List.map_nil, PyData.canLayAll0]
    | cons x r ih =>
      rw [List.map_cons]
      simp only [PyData.canLayAll0, PyData.canLay0]
      rw [ih fun y hy => h y (List.mem_cons_of_mem _ hy), Bool.and_true]
      unfold PyData.strOk
      have hx := bits_sm (h x List.mem_cons_self)
      rw [Array.all_eq_true']
      intro c hc
      have := hx c (Array.mem_toList_iff.mpr hc)
      exact decide_eq_true (by omega)
  have h2 : PyData.depthAll (xs.map PyData.str) ≤ 0 := depthAll_le fun d hd => by
    obtain ⟨x, _, rfl⟩ := List.mem_map.mp hd
    simp only [PyData.depth]
    exact Nat.le_refl _
  unfold SeqAt.shaped
  rw [Bool.and_eq_true]
  refine ⟨by simp only [PyData.canLay0]; exact h1, decide_eq_true ?_⟩
  simp only [PyData.depth]
  omega
theorem eqv_nilS (xs : List Str) : PyData.eqv (.list (xs.map PyData.str)) (.list []) = decide (xs = []) := by
  cases xs with
  | nil => rfl
  | cons x r => rfl
/-- the prefixes of a map of this width, each once -/
structure PfxL (w : Nat) (xs : List Str) : Prop where
  nd : xs.Nodup
  bits : ∀ x ∈ xs, isBits x = true
  len : ∀ x ∈ xs, x.length ≤ w
/-- rows: prefixes of this width with values of this kind -/
structure RowsOk (w : Nat) (vok : V → Prop) (xs : List Str) (kvs : List (Key × V)) : Prop where
  keys : kvs.map (·.1) = xs.map Sum.inr
  pfx : PfxL w xs
  val : ∀ kv ∈ kvs, vok kv.2
def isIntV : V → Prop
  | .int _ => True
  | _ => False
def spBits : Sp := fun vs H Q _ => ∃ (p c : Addr) (n z : Nat) (m : List V), vs = [.ref p, .int z] ∧ Pen H p c n m ∧ n + 100 ≤ PB ∧ z ≤ 40 ∧
  ∀ (x : Str) (H' : Hp), But p H H' → Pen H' p c (n + 1 + z) m → isBits x = true → x.length ≤ z → Q (.str x) H'
def spSize : Sp := fun vs H Q _ => ∃ (p c : Addr) (n : Nat) (m : List V), vs = [.ref p] ∧ Pen H p c n m ∧ n + 100 ≤ PB ∧ m.length ≤ 1 ∧
  ∀ (z : Nat) (m' : List V) (H' : Hp), But p H H' → Pen H' p c (n + 1) m' → m'.length ≤ 1 → 1 ≤ z → z ≤ 32 → Q (.int z) H'
def spPrefixes : Sp := fun vs H Q _ => ∃ (p c : Addr) (n z k : Nat) (m : List V), vs = [.ref p, .int z, .int k] ∧ Pen H p c n m ∧ n + 1000 ≤ PB ∧ z ≤ 32 ∧ k ≤ 20 ∧
  ∀ (l : Addr) (xs : List Str) (H' : Hp), But p H H' → Pen H' p c (n + 1 + 8 * k) m → H l = none → H' l = some (.lst (xs.map V.str)) → PfxL z xs → xs.length ≤ k → Q (.ref l) H'
/-! ### types as isinstance reads them -/
def isIntish : V → Bool
  | .int _ => true
  | .bl _ => true
  | _ => false
def isBoolV : V → Bool
  | .bl _ => true
  | _ => false
def isWholeV : V → Bool
  | .int _ => true
  | _ => false
def isWidthV : V → Bool
  | .int z => decide ((1 : Int) ≤ z) && decide (z ≤ 32)
  | _ => false
structure TyI (K : PySem.W.Frag) (H : Hp) (v : V) (t : String) : Prop where
  ty : TyX K H v (.type t)
  int : PySem.W.kitOne K (.type t) (.type "int") = some (isIntish v)
  bool : PySem.W.kitOne K (.type t) (.type "bool") = some (isBoolV v)
theorem kitv {K : PySem.W.Frag} {t c : String} {b : Bool} (h : kitB t c = some b) : PySem.W.kitOne K (.type t) (.type c) = some b := kit_ty h
theorem TyI.of {K : PySem.W.Frag} {H : Hp} {N : Addr → Prop} {v : V} {d : PyData} (h : Dr K H N v d) : ∃ t, TyI K H v t := by
  cases h with
  | non => exact ⟨_, .base .non, kitv (b := false) (by decide +kernel), kitv (b := false) (by decide +kernel)⟩
  | bl b => exact ⟨_, .base (.bl b), kitv (b := true) (by decide +kernel), kitv (b := true) (by decide +kernel)⟩
  | int i => exact ⟨_, .base (.int i), kitv (b := true) (by decide +kernel), kitv (b := false) (by decide +kernel)⟩
  | str x => exact ⟨_, .base (.str x), kitv (b := false) (by decide +kernel), kitv (b := false) (by decide +kernel)⟩
  | lst _ h _ =>
    rcases h with (h | ⟨o, h⟩) | ⟨o, _, _, h, hc, _⟩
    · exact ⟨_, .base (.lst h), kitv (b := false) (by decide +kernel), kitv (b := false) (by decide +kernel)⟩
    · exact ⟨_, .base (.frz h), kitv (b := false) (by decide +kernel), kitv (b := false) (by decide +kernel)⟩
    · exact ⟨_, .kList h hc, kitv (b := false) (by decide +kernel), kitv (b := false) (by decide +kernel)⟩
  | tup _ h _ =>
    rcases h with (h | ⟨o, h⟩) | ⟨o, _, _, h, hc, _⟩
    · exact ⟨_, .base (.tup h), kitv (b := false) (by decide +kernel), kitv (b := false) (by decide +kernel)⟩
    · exact ⟨_, .fTuple h, kitv (b := false) (by decide +kernel), kitv (b := false) (by decide +kernel)⟩
    · exact ⟨_, .kTuple h hc, kitv (b := false) (by decide +kernel), kitv (b := false) (by decide +kernel)⟩
  | dic _ h _ =>
    rcases h with h | ⟨o, h⟩
    · exact ⟨_, .base (.dK h), kitv (b := false) (by decide +kernel), kitv (b := false) (by decide +kernel)⟩
    · exact ⟨_, .fDict h, kitv (b := false) (by decide +kernel), kitv (b := false) (by decide +kernel)⟩
/-! ### locked and as it was -/
theorem upd_back {H : Hp} {d : Addr} {u o : HO} (h : H d = some u) : upd (upd H d o) d u = H := by
  rw [upd_upd]
  funext b
  by_cases hb : b = d
  · rw [hb, upd_same, h]
  · rw [upd_ne hb]
/-- a dict comprehension over any walk -/
theorem dc_it {J : It} {n : Nat} {G : Hp → Prop} {Y : Nat → Hp → V → Hp → Prop} (w : Walk J n G Y) {g : TG} {tt : TT} {tk tv : TE} {vs : List Nat} {σ : L2.St} {H1 : Hp} {D : Addr} {Qd : Hp → Prop} (Pv : Nat → Hp → Prop) (h0 : Pv 0 (upd H1 D (.dK []))) (hG : ∀ i H, i ≤ n → Pv i H → G H)
    (hs : ∀ i x H H', i < n → Pv i H → Y i H x H' → g x (wipe σ vs) H' fun σ2 H2 => wipe σ2 vs = wipe σ vs ∧ tt σ2 H2 fun b H3 =>
      if b = true then tk σ2 H3 fun y H4 => tv σ2 H4 fun z H5 => ∃ kvs k, y = kV k ∧ H5 D = some (.dK kvs) ∧ kvs.length < sizeLine ∧ Pv (i + 1) (upd H5 D (.dK (putK kvs k z))) else Pv (i + 1) H3) (hd : ∀ H, Pv n H → Qd H) :
    ∃ W : Nat → Nat → Hp → Prop, (∃ m, W 0 m (upd H1 D (.dK []))) ∧ ∀ i m H, W i m H → (J.stop i H ∧ Qd H) ∨ (J.go i H ∧ ∃ Nx : Hp → Prop, (∀ H', Nx H' → ∃ m', m' < m ∧ W (i + 1) m' H') ∧
      ∀ x H', J.yld i H x H' → g x (wipe σ vs) H' fun σ2 H2 => wipe σ2 vs = wipe σ vs ∧ tt σ2 H2 fun b H3 =>
        if b = true then tk σ2 H3 fun y H4 => tv σ2 H4 fun z H5 => ∃ kvs k, y = kV k ∧ H5 D = some (.dK kvs) ∧ kvs.length < sizeLine ∧ Nx (upd H5 D (.dK (putK kvs k z))) else Nx H3) := by
  refine ⟨fun i m H => m + i = n ∧ Pv i H, ⟨n, rfl, h0⟩, ?_⟩
  rintro i m H ⟨hm, p⟩
  have q := hG i H (by omega) p
  rcases Nat.lt_or_ge i n with lt | ge
  · exact .inr ⟨w.goes i H lt q, Pv (i + 1), fun H' p' => ⟨m - 1, by omega, by omega, p'⟩, fun x H' y => hs i x H H' lt p (w.yields i H x H' lt q y)⟩
  · obtain rfl : i = n := by omega
    exact .inl ⟨w.stops H q, hd H p⟩
/-! ### prefixes of texts -/
def Pre (y x : Str) : Prop := sg y <+: sg x
instance (y x : Str) : Decidable (Pre y x) := inferInstanceAs (Decidable (sg y <+: sg x))
theorem startswith_iff (x y : Str) : Txt.startswith x y = decide (Pre y x) := by
  have e : Txt.startswith x y = (decide (0 + y.length ≤ x.length) && ((x.cps.extract 0 (0 + y.length)) == y.cps)) := rfl
  rw [e, Bool.eq_iff_iff, Bool.and_eq_true, decide_eq_true_iff, decide_eq_true_iff, beq_iff_eq]
  have e2 : (x.cps.extract 0 (0 + y.length)).toList = (sg x).take y.length := by simp [sg]
  constructor
  · rintro ⟨_, h⟩
    have h2 : (sg x).take y.length = sg y := by rw [← e2, h]
    show sg y <+: sg x
    rw [← h2]
    exact List.take_prefix _ _
  · intro h
    have h1 : sg y = (sg x).take (sg y).length := List.prefix_iff_eq_take.mp h
    have h3 := h.length_le
    rw [sg_len, sg_len] at h3
    refine ⟨by omega, ?_⟩
    apply Array.toList_inj.mp
    rw [e2, ← sg_len y]
    exact h1.symm
theorem pre_take (x : Str) (k : Nat) : Pre (cutS x none (some (k : Int))) x := by
  show sg _ <+: sg x
  rw [sg_take]
  exact List.take_prefix _ _
theorem pre_eq {x y : Str} (h : Pre y x) : y = cutS x none (some (y.length : Int)) := str_ext (by
  show sg y = sg _
  rw [sg_take, ← sg_len]
  exact List.prefix_iff_eq_take.mp h)
theorem pre_len {x y : Str} (h : Pre y x) : y.length ≤ x.length := by
  have := List.IsPrefix.length_le h
  rw [sg_len, sg_len] at this
  exact this
/-- the longest of xs with which x begins -/
def IsLong (xs : List Str) (x : Str) : Option Str → Prop
  | none => ∀ y ∈ xs, ¬ Pre y x
  | some y => y ∈ xs ∧ Pre y x ∧ ∀ z ∈ xs, Pre z x → z.length ≤ y.length
theorem IsLong.uniq {xs ys : List Str} {x : Str} (hm : ∀ y, y ∈ xs ↔ y ∈ ys) : ∀ {r r' : Option Str}, IsLong xs x r → IsLong ys x r' → r = r'
  | none, none, _, _ => rfl
  | none, some y, h, h' => absurd h'.2.1 (h y ((hm y).mpr h'.1))
  | some y, none, h, h' => absurd h.2.1 (h' y ((hm y).mp h.1))
  | some y, some z, h, h' => by
    have h1 := h.2.2 z ((hm z).mpr h'.1) h'.2.1
    have h2 := h'.2.2 y ((hm y).mp h.1) h.2.1
    have e : y.length = z.length := by omega
    rw [pre_eq h.2.1, pre_eq h'.2.1, e]
def optV : Option Str → V
  | none => .non
  | some x => .str x
/-! ### dicts by texts -/
theorem valV_mem {kvs : List (Key × V)} {k : Key} : (valV kvs k).isSome = true ↔ k ∈ kvs.map (·.1) := by
  unfold valV
  rw [Option.isSome_map, List.find?_isSome, List.mem_map]
  constructor
  · rintro ⟨p, hp, e⟩
    exact ⟨p, hp, of_decide_eq_true e⟩
  · rintro ⟨p, hp, e⟩
    exact ⟨p, hp, decide_eq_true e⟩
theorem inr_mem {kvs : List (Key × V)} {xs : List Str} (h : kvs.map (·.1) = xs.map Sum.inr) (y : Str) : (Sum.inr y : Key) ∈ kvs.map (·.1) ↔ y ∈ xs := by
  rw [h, List.mem_map]
  constructor
  · rintro ⟨z, hz, e⟩
    rw [← Sum.inr.inj e]
    exact hz
  · intro hy
    exact ⟨y, hy, rfl⟩
theorem key_at {kvs : List (Key × V)} {xs : List Str} (h : kvs.map (·.1) = xs.map Sum.inr) {i : Nat} {k : Key} {v : V} (e : kvs[i]? = some (k, v)) : ∃ y, xs[i]? = some y ∧ k = .inr y := by
  have h1 : (kvs.map (·.1))[i]? = some k := by rw [List.getElem?_map, e]; rfl
  rw [h, List.getElem?_map] at h1
  cases hx : xs[i]? with
  | none => rw [hx] at h1; cases h1
  | some y =>
    rw [hx] at h1
    exact ⟨y, rfl, (Option.some.inj h1).symm⟩
theorem valV_some {kvs : List (Key × V)} (nd : (kvs.map (·.1)).Nodup) {k : Key} {v : V} (h : (k, v) ∈ kvs) : valV kvs k = some v := by
  induction kvs with
  | nil => cases h
  | cons p r ih =>
    obtain ⟨k', v'⟩ := p
    rw [List.map_cons, List.nodup_cons] at nd
    rcases List.mem_cons.mp h with e | h
    · cases e
      exact valV_pos rfl
    · have hne : k' ≠ k := fun e => nd.1 (by rw [e]; exact List.mem_map.mpr ⟨_, h, rfl⟩)
      have hz := ih nd.2 h
      unfold valV at hz ⊢
      rw [List.find?_cons_of_neg (by simpa using hne)]
      exact hz
/-! ### the lines of a law: a new dict by drawn prefixes -/
theorem SqT.but {K : PySem.W.Frag} {p a : Addr} {H H' : Hp} {o : List V} {xs : List V} (e : But p H H') (hp : H p = some (.lst o)) (h : SqT K H a xs) : SqT K H' a xs := by
  rcases h with (h | ⟨u, h⟩) | h
  · exact .inl (.inl (e _ _ (ne_of h hp (fun z => nomatch z)) h))
  · exact .inl (.inr ⟨u, e _ _ (ne_of h hp (fun z => nomatch z)) h⟩)
  · exact .inr h
theorem SqT.same {K : PySem.W.Frag} {a : Addr} {H H' : Hp} {xs : List V} (e : Same H H') (h : SqT K H a xs) : SqT K H' a xs := by
  rcases h with (h | ⟨u, h⟩) | h
  · exact .inl (.inl (e _ _ h))
  · exact .inl (.inr ⟨u, e _ _ h⟩)
  · exact .inr h
def spLines (vok : V → Prop) (most : Nat) : Sp := fun vs H Q _ => ∃ (p c : Addr) (n z : Nat) (m : List V), vs = [.ref p, .int z] ∧ Pen H p c n m ∧ n + 1000 ≤ PB ∧ z ≤ 32 ∧
  ∀ (d : Addr) (xs : List Str) (kvs : List (Key × V)) (H' : Hp), But p H H' → H d = none → H' d = some (.dK kvs) → RowsOk z vok xs kvs → xs.length ≤ most → Pen H' p c (n + 200) m → Q (.ref d) H'
theorem Pen.lst {H : Hp} {p c : Addr} {n : Nat} {m : List V} (h : Pen H p c n m) : ∃ o, H p = some (.lst o) := by
  obtain ⟨ns, i, s, h⟩ := h
  exact ⟨_, h.at_⟩
/-- the loop of such a dict: pairs of a prefix and a value that is drawn -/
structure PairsAt (K : PySem.W.Frag) (H : Hp) (D : Addr) (vok : V → Prop) (xs : List Str) (ps : List Addr) (kvs : List (Key × V)) : Prop where
  at_ : H D = some (.lst (ps.map V.ref))
  prs : Paired (fun a kv => SqT K H a [kV kv.1, kv.2]) ps kvs
  keys : kvs.map (·.1) = xs.map Sum.inr
  val : ∀ kv ∈ kvs, vok kv.2
theorem PairsAt.but {K : PySem.W.Frag} {H H' : Hp} {D p : Addr} {vok : V → Prop} {xs : List Str} {ps : List Addr} {kvs : List (Key × V)} {o : List V} (h : PairsAt K H D vok xs ps kvs) (e : But p H H') (hp : H p = some (.lst o)) (hD : D ≠ p) : PairsAt K H' D vok xs ps kvs :=
  ⟨e _ _ hD h.at_, h.prs.mono fun _ _ t => SqT.but e hp t, h.keys, h.val⟩
theorem PairsAt.same {K : PySem.W.Frag} {H H' : Hp} {D : Addr} {vok : V → Prop} {xs : List Str} {ps : List Addr} {kvs : List (Key × V)} (h : PairsAt K H D vok xs ps kvs) (e : Same H H') : PairsAt K H' D vok xs ps kvs :=
  ⟨e _ _ h.at_, h.prs.mono fun _ _ t => SqT.same e t, h.keys, h.val⟩
theorem PairsAt.snoc {K : PySem.W.Frag} {H : Hp} {D : Addr} {vok : V → Prop} {xs : List Str} {ps : List Addr} {kvs : List (Key × V)} (h : PairsAt K H D vok xs ps kvs) {y : Str} {v : V} (hv : vok v) {t : Addr} (ht : H t = none) :
    PairsAt K (upd (upd H t (.tup [.str y, v])) D (.lst (ps.map V.ref ++ [.ref t]))) D vok (xs ++ [y]) (ps ++ [t]) (kvs ++ [(.inr y, v)]) := by
  have nt : t ≠ D := fun e => by
    rw [e, h.at_] at ht
    cases ht
  refine ⟨by rw [upd_same, List.map_append]; rfl, Paired.snoc (h.prs.mono fun a kv q => ?_) (.inl (.inl (by rw [upd_ne nt, upd_same]; rfl))), by rw [List.map_append, List.map_append, h.keys]; rfl, fun kv hk => ?_⟩
  · refine SqT.but (p := D) (H := upd H t (.tup [.str y, v])) .upd (by rw [upd_ne nt.symm]; exact h.at_) (SqT.same (same_upd ht) q)
  · rcases List.mem_append.mp hk with hk | hk
    · exact h.val kv hk
    · rw [List.mem_singleton.mp hk]
      exact hv
theorem pair_merge {K : PySem.W.Frag} {H : Hp} {D : Addr} {vok : V → Prop} {xs : List Str} {ps : List Addr} {kvs : List (Key × V)} (h : PairsAt K H D vok xs ps kvs) (nd : xs.Nodup) : mergeK [] kvs = kvs := by
  have e : (([] ++ kvs : List (Key × V)).map (·.1)).Nodup := by
    rw [List.nil_append, h.keys]
    exact nd.map Sum.inr (fun a b h e => h (Sum.inr.inj e))
  rw [mergeK_nd kvs [] e, List.nil_append]
/-- such a list made one longer: what stood else is as it was -/
theorem pairs_old {H H1 H3 : Hp} {D t p : Addr} {o1 o2 : HO} (hD : H D = none) (b1 : But p H H1) (b3 : But p H1 H3) (ht : H3 t = none) : But p H (upd (upd H3 t o1) D o2) := fun a o na ha => by
  have h1 := b3 a o na (b1 a o na ha)
  rw [upd_ne (ne_of_none ha hD), upd_ne (ne_of_none h1 ht)]
  exact h1
/-! ### lists of spots -/
theorem sg_mul (c n : Nat) : sg (Txt.mul ⟨#[c]⟩ (n : Int)) = List.replicate n c := by
  unfold Txt.mul
  by_cases h0 : (n : Int) < 1
  · rw [if_pos h0]
    have : n = 0 := by omega
    subst this
    rfl
  · rw [if_neg h0]
    by_cases h1 : n = 1
    · subst h1
      rfl
    · have e : (((n : Int) == 1) || ((⟨#[c]⟩ : Str).length == 0)) = false := by
        rw [show ((n : Int) == 1) = false from beq_eq_false_iff_ne.mpr (by omega)]
        rfl
      rw [e, if_neg Bool.false_ne_true]
      show ((List.replicate ((n : Int)).toNat (#[c] : Array Nat)).foldl (· ++ ·) #[]).toList = _
      rw [foldl_app, Int.toNat_natCast, List.map_replicate]
      show [] ++ (List.replicate n [c]).flatten = _
      rw [List.nil_append]
      induction n with
      | zero => rfl
      | succ k ih => 
        clear ih h0 h1 e
        induction k with
        | zero => rfl
        | succ j ih => rw [List.replicate_succ, List.flatten_cons, ih]; rfl
theorem zero_is : ("0" : Str) = ⟨#[48]⟩ := by decide +kernel
theorem one_is : ("1" : Str) = ⟨#[49]⟩ := by decide +kernel
theorem mul_ok1 {x : Str} {n : Nat} (hx : x.length ≤ 1) (hn : n ≤ 1000) : MulOk x (n : Int) := mulOk_of 1 1000 hx (by omega) (by omega) (by decide) (by decide)
theorem zeros_bits (n : Nat) : isBits (Txt.mul "0" (n : Int)) = true ∧ (Txt.mul "0" (n : Int)).length = n := by
  rw [zero_is]
  refine ⟨bits_iff.mpr fun c hc => ?_, ?_⟩
  · rw [sg_mul] at hc
    exact .inl (List.mem_replicate.mp hc).2
  · rw [← sg_len, sg_mul, List.length_replicate]
theorem ones_bits (n : Nat) : isBits (Txt.mul "1" (n : Int)) = true ∧ (Txt.mul "1" (n : Int)).length = n := by
  rw [one_is]
  refine ⟨bits_iff.mpr fun c hc => ?_, ?_⟩
  · rw [sg_mul] at hc
    exact .inr (List.mem_replicate.mp hc).2
  · rw [← sg_len, sg_mul, List.length_replicate]
/-- texts of bits, none longer than z -/
def AllS (z : Nat) (vs : List V) : Prop := ∀ v ∈ vs, ∃ x, v = .str x ∧ isBits x = true ∧ x.length ≤ z
theorem AllS.nil {z : Nat} : AllS z [] := fun _ h => absurd h List.not_mem_nil
theorem AllS.app {z : Nat} {vs us : List V} (h : AllS z vs) (h' : AllS z us) : AllS z (vs ++ us) := fun v hv => (List.mem_append.mp hv).elim (h v) (h' v)
theorem AllS.one {z : Nat} {x : Str} (h1 : isBits x = true) (h2 : x.length ≤ z) : AllS z [.str x] := fun v hv => ⟨x, List.mem_singleton.mp hv, h1, h2⟩
theorem AllS.rev {z : Nat} {vs : List V} (h : AllS z vs) : AllS z vs.reverse := fun v hv => h v (List.mem_reverse.mp hv)
theorem AllS.strs {z : Nat} {xs : List Str} (h : PfxL z xs) : AllS z (xs.map V.str) := fun v hv => by
  obtain ⟨x, hx, rfl⟩ := List.mem_map.mp hv
  exact ⟨x, rfl, h.bits x hx, h.len x hx⟩
theorem big_of {n : Nat} (h : n ≤ 1000) : n ≤ sizeLine := Nat.le_trans h (by decide)
theorem big_lt {n : Nat} (h : n ≤ 1000) : n < sizeLine := Nat.lt_of_le_of_lt h (by decide)
/-! ### rows whatever their order and however often they come -/
structure RowsAcc (w : Nat) (vok : V → Prop) (kvs : List (Key × V)) : Prop where
  nd : (kvs.map (·.1)).Nodup
  all : ∀ kv ∈ kvs, ∃ y, kv.1 = .inr y ∧ isBits y = true ∧ y.length ≤ w ∧ vok kv.2
theorem RowsAcc.put {w : Nat} {vok : V → Prop} {kvs : List (Key × V)} (h : RowsAcc w vok kvs) {y : Str} {v : V} (h1 : isBits y = true) (h2 : y.length ≤ w) (h3 : vok v) : RowsAcc w vok (putK kvs (.inr y) v) := by
  by_cases hm : (Sum.inr y : Key) ∈ kvs.map (·.1)
  · have e : putK kvs (.inr y) v = kvs.map (fun kv => if kv.1 = .inr y then (kv.1, v) else kv) := by
      unfold putK
      rw [if_pos]
      obtain ⟨p, hp, e⟩ := List.mem_map.mp hm
      exact List.any_eq_true.mpr ⟨p, hp, decide_eq_true e⟩
    rw [e]
    constructor
    · rw [List.map_map]
      have e2 : (Prod.fst ∘ fun kv : Key × V => if kv.1 = .inr y then (kv.1, v) else kv) = Prod.fst := by
        funext kv
        show (if kv.1 = .inr y then (kv.1, v) else kv).1 = kv.1
        split <;> rfl
      rw [e2]
      exact h.nd
    · intro kv hkv
      obtain ⟨p, hp, rfl⟩ := List.mem_map.mp hkv
      by_cases hy : p.1 = .inr y
      · rw [if_pos hy]
        exact ⟨y, hy, h1, h2, h3⟩
      · rw [if_neg hy]
        exact h.all p hp
  · rw [putK_end hm]
    constructor
    · rw [List.map_append, List.nodup_append]
      refine ⟨h.nd, List.nodup_cons.mpr ⟨List.not_mem_nil, List.nodup_nil⟩, fun a ha b hb e => hm ?_⟩
      have e2 : b = .inr y := List.mem_singleton.mp hb
      rw [← e2, ← e]
      exact ha
    · intro kv hkv
      rcases List.mem_append.mp hkv with hkv | hkv
      · exact h.all kv hkv
      · rw [List.mem_singleton.mp hkv]
        exact ⟨y, rfl, h1, h2, h3⟩
theorem RowsAcc.merge {w : Nat} {vok : V → Prop} : ∀ {more kvs : List (Key × V)}, RowsAcc w vok kvs → (∀ kv ∈ more, ∃ y, kv.1 = .inr y ∧ isBits y = true ∧ y.length ≤ w ∧ vok kv.2) → RowsAcc w vok (mergeK kvs more)
  | [], _, h, _ => h
  | (k, v) :: r, kvs, h, hm => by
    obtain ⟨y, e, h1, h2, h3⟩ := hm (k, v) List.mem_cons_self
    have e' : k = .inr y := e
    subst e'
    show RowsAcc w vok (mergeK (putK kvs (.inr y) v) r)
    exact RowsAcc.merge (h.put h1 h2 h3) fun kv hk => hm kv (List.mem_cons_of_mem _ hk)
theorem RowsAcc.ok {w : Nat} {vok : V → Prop} {kvs : List (Key × V)} (h : RowsAcc w vok kvs) : ∃ xs, RowsOk w vok xs kvs ∧ xs.length = kvs.length := by
  have key : ∀ l : List (Key × V), (∀ kv ∈ l, ∃ y, kv.1 = .inr y ∧ isBits y = true ∧ y.length ≤ w ∧ vok kv.2) → ∃ xs : List Str, l.map (·.1) = xs.map Sum.inr ∧ (∀ x ∈ xs, isBits x = true ∧ x.length ≤ w) := by
    intro l
    induction l with
    | nil => exact fun _ => ⟨[], rfl, fun _ h => absurd h List.not_mem_nil⟩
    | cons p r ih =>
      intro hl
      obtain ⟨xs, e, hx⟩ := ih fun kv hk => hl kv (List.mem_cons_of_mem _ hk)
      obtain ⟨y, ey, h1, h2, _⟩ := hl p List.mem_cons_self
      refine ⟨y :: xs, by rw [List.map_cons, List.map_cons, e, ey], fun x hx' => ?_⟩
      rcases List.mem_cons.mp hx' with rfl | hx'
      · exact ⟨h1, h2⟩
      · exact hx x hx'
  obtain ⟨xs, e, hx⟩ := key kvs h.all
  refine ⟨xs, ⟨e, ⟨?_, fun x hx' => (hx x hx').1, fun x hx' => (hx x hx').2⟩, fun kv hk => by obtain ⟨_, _, _, _, h⟩ := h.all kv hk; exact h⟩, ?_⟩
  · have hn := h.nd
    rw [e] at hn
    exact List.Pairwise.of_map Sum.inr (fun a b h e => h (by rw [e])) hn
  · have := congrArg List.length e
    rw [List.length_map, List.length_map] at this
    exact this.symm
/-! ### super().__init__(a, ..) -/
/-- an __init__ that calls its base's: its def at f, the cell of its class at cc -/
structure FunS (K : PySem.W.Frag) (file : Str) (x qual : Str) (st : Stmt) (f D : Addr) (fd : FuncData) : Prop where
  ex : ∃ (oc : Value) (od : Option Addr) (kV doc pm : Value) (an : Option Addr) (cda cc : Addr) (ct : Value) (osl : Array (Option Value)) (ck : Value) (cd : Option Addr) (vs : Array Value) (cs : Array (Option Value)) (tf : Tok) (lk : Value) (ld : Option Addr) (ls : Array (Option Value)),
    fd = PySem.W.ksFn x qual (defArgs st) (defBody st) (defScope st) .none kV doc pm an (.ref cda) ct cc ∧ K.lookup f = some ⟨oc, od, .func fd, osl⟩ ∧ PySem.W.codeIn K (.ref cda) qual = true ∧
    K.lookup cda = some ⟨ck, cd, .fields vs, cs⟩ ∧ vs[2]? = some (.str file tf) ∧ K.lookup cc = some ⟨lk, ld, .cell (some (.ref D)), ls⟩
  kp : PySem.W.keepIn K (.ref f) = true
/-- the scope of such a def: its parameters alone, and the cell -/
structure ScS (ps : List Str) (sc : Scope) : Prop where
  kind : sc.kind = .function
  co : sc.isCoroutine = false
  gen : sc.isGenerator = false
  nd : ps.Nodup
  par : ∀ x ∈ ps, sc.names.lookup x = some .local
  nocell : ∀ y ∈ sc.names, y.2 ≠ .cell
  free : ∀ y ∈ sc.names, y.2 = .free → y.1 = "__class__"
  sup : sc.names.lookup ("super" : Str) = some .globalImplicit
  cls : sc.names.lookup ("__class__" : Str) = some .free
theorem rev_get {x : Str} {v : Value} : ∀ {P : List Str} {vs : List Value} {i : Nat}, P.Nodup → P[i]? = some x → vs[i]? = some v → (P.zip vs).reverse.lookup x = some v
  | [], _, _, _, h, _ => by simp at h
  | _ :: _, [], _, _, _, h => by simp at h
  | p :: P, w :: vs, 0, nd, h1, h2 => by
    obtain rfl : p = x := by simpa using h1
    obtain rfl : w = v := by simpa using h2
    have out : (P.zip vs).reverse.lookup p = none := by
      rw [List.lookup_eq_none_iff]
      intro q hq
      have hq' := List.mem_reverse.mp hq
      have : q.1 ∈ P := (List.of_mem_zip (a := q.1) (b := q.2) hq').1
      have ne : p ≠ q.1 := by rintro e; exact (List.nodup_cons.mp nd).1 (e ▸ this)
      simpa using ne
    show ((p, w) :: P.zip vs).reverse.lookup p = _
    rw [List.reverse_cons, List.lookup_append, out]
    simp
  | p :: P, w :: vs, i + 1, nd, h1, h2 => by
    have := rev_get (i := i) (List.nodup_cons.mp nd).2 (by simpa using h1) (by simpa using h2)
    show ((p, w) :: P.zip vs).reverse.lookup x = _
    rw [List.reverse_cons, List.lookup_append, this]
    rfl
/-- the context of its body -/
def cxS (P : Program) (w : World) (K : PySem.W.Frag) (mg : Str → Option Value) (base : Heap) (N : List Str) (qual : Str) (scope : Scope) (f : Addr) (cd : Value) (cc : Addr) (A : Around) (outer : List Env) (s : Shared) (H : Hp) : Cx where
  prog := P
  w := w
  K := K
  mg := mg
  base := base
  A := A.deeper (PySem.W.ksEnv qual scope s.heap.objs.size f cd cc)
  N := N
  s_0 := s
  H_0 := H
  env := PySem.W.ksEnv qual scope s.heap.objs.size f cd cc
  outer := outer
  stack := PySem.W.ksEnv qual scope s.heap.objs.size f cd cc :: outer
  ex := []
  calm := true
  fn := fun _ => false
  pn := []
  xe := fun _ _ => False
section
variable {P : Program} {w : World} {K : PySem.W.Frag} {mg : Str → Option Value} {base : Heap}
theorem inv_super {ps : List Str} {qual : Str} {scope : Scope} {f cc : Addr} {cd : Value} {A : Around} {outer : List Env} {s : Shared} {h1 : Heap} {tk : Nat} {H : Hp} {us : List Value} {vs : List V} {D : Addr} {lk : Value} {ld : Option Addr} {ls : Array (Option Value)}
    (S : ScS ps scope) (hd : A.handled = none) (e0 : Env0 P w K mg base A outer s H) (hl : vs.length = ps.length) (r : Vals vs us) (hcc : K.lookup cc = some ⟨lk, ld, .cell (some (.ref D)), ls⟩)
    (ns : h1.Ns s.heap.objs.size (fun y => (ps.zip us).reverse.lookup y)) (hk : ∀ b o, s.heap.get? b = some o → h1.get? b = some o) :
    Inv (cxS P w K mg base ps qual scope f cd cc A outer s H) [] (vs.map some) H { s with heap := h1, toks := tk } := by
  have KX : K.In s.heap := e0.mod.kin.keeps fun b o e => (e0.bs b o e).1
  have one : ∀ {x : Str} {c : Addr}, ([("__class__", cc)] : List (Str × Addr)).lookup x = some c → x = "__class__" ∧ c = cc := by
    intro x c h
    simp only [List.lookup] at h
    split at h
    · rename_i q
      exact ⟨by simpa using q, by cases h; rfl⟩
    · cases h
  have hcb : base.get? cc = some ⟨lk, ld, .cell (some (.ref D)), ls⟩ := e0.mod.kin _ _ hcc
  have noA : ∀ b : Addr, b ∉ (cxS P w K mg base ps qual scope f cd cc A outer s H).ex := fun b z => absurd (show b ∈ ([] : List Addr) from z) (by simp)
  refine ⟨⟨e0.mod, S.kind, rfl, rfl, Nat.le_refl _, fun y z c h1 h2 => (one h1).1.trans (one h2).1.symm, fun y hy => ?_, fun y c q _ => absurd (show false = true from q) (by decide), fun _ => hd, Around.frames_deeper e0.frames, .inr ⟨rfl, rfl⟩, fun b z => absurd z (noA b), e0.bs, e0.bsz, fun b _ _ => noA b, fun b z => absurd z (noA b), e0.funs, e0.frf⟩,
    rfl, e0.bare, Un.kept hk, ⟨_, ns, fun i y v g1 g2 g3 => ?_⟩, fun y c h => ?_, e0.hok.fresh (Nat.le_refl _), fun y c h => ?_, fun p hp => absurd (show p ∈ ([] : List (Addr × Obj)) from hp) (by simp), e0.hok.kept hk, ?_⟩
  · have hy : scope.names.lookup y = some .cell ∨ scope.names.lookup y = some .free := hy
    rcases hy with hy | hy
    · exact absurd rfl (S.nocell _ (PySem.mem_of_lookup hy))
    · obtain rfl := S.free _ (PySem.mem_of_lookup hy) rfl
      exact ⟨cc, rfl⟩
  · have g2' : (vs.map some)[i]? = some (some v) := g2
    rw [List.getElem?_map] at g2'
    obtain ⟨v', ha, e⟩ := Option.map_eq_some_iff.mp g2'
    obtain rfl : v' = v := Option.some.inj e
    obtain ⟨u, hu, rv⟩ := r.get ha
    exact ⟨u, rv, .inl ⟨S.par y (List.mem_of_getElem? g1), rev_get S.nd g1 hu⟩⟩
  · obtain ⟨rfl, rfl⟩ := one h
    exact ⟨_, _, hk _ _ (KX _ _ hcc), rfl⟩
  · obtain ⟨rfl, rfl⟩ := one h
    exact (e0.bs _ _ hcb).2
  · show (vs.map some).length = ps.length
    rw [List.length_map, hl]
/-- the first statement super().__init__(a, ..), then the rest -/
theorem ok_super {x qual : Str} {st : Stmt} {f f2 C D : Addr} {fd : FuncData} {ps : List Str} {k : Nat} {file self : Str} {sp sp2 : Sp} {rest : List Stmt} {e : Expr} {es : List Expr} {p0 p1 ap pos sps : Pos} {m : Str}
    (F : FunS K file x qual st f D fd) (S : ScS ps (defScope st)) (G2 : FnR P w K mg base CX0 k f2 sp2) (fi : PySem.W.fnIn K f2 = true) (ty : PySem.W.typeIn K (.ref f2) = some (.type "function"))
    (hcd : ∃ cdD, PySem.W.clsIn K D = some cdD) (hsub : PySem.W.mroIn K C (.ref D) = some true) (hm : PySem.W.ks_superIn K C D m = some (some (.ref f2))) (hop : PySem.W.nsIn K cStatics "thirdparty.any" = some none) (hsu : mg "super" = none)
    (hfile : ((P.main.file : Str) == file) = true) (htop : (P.main.scope.names.lookup ("super" : Str)).isSome = false)
    (hb : defBody st = .Expr (.Call (.Attribute (.Call (.Name "super" p0) [] [] p1) m ap) (e :: es) [] pos) sps :: rest) (hself : ∃ ar, ((defArgs st).posonlyargs ++ (defArgs st).args).head? = some ar ∧ ar.arg = self) (h0 : ps[0]? = some self)
    (hn : (m == ("__class__" : Str)) = false)
    (hev : ∀ env, ∃ pl, eval (.Call (.Attribute (.Call (.Name "super" p0) [] [] p1) m ap) (e :: es) [] pos) env = (do
      let ov ← attributeBase (.Call (.Name "super" p0) [] [] p1) m env (eval (.Call (.Name "super" p0) [] [] p1) env)
      standAt ap.atName
      let (g, first) ← holding [ov] (getMethod ov m pl)
      callWith pos g first (backTo pos (starEach (e :: es) env)) []))
    (hsw : ∀ env, swapsWith (.Call (.Attribute (.Call (.Name "super" p0) [] [] p1) m ap) (e :: es) [] pos) none sps.line env = pure false)
    (hst : ∀ env, starEach (e :: es) env = (false, eval e env) :: starEach es env) (hpl : ∀ env, (backTo pos (starEach es env)).any (·.1) = false)
    (many : ∀ vs H Q E, sp vs H Q E → vs.length = ps.length) (hE : ∀ {vs H Q E}, sp vs H Q E → sp vs H Q E0)
    (want : ∀ (A : Around) (cda cc : Addr) (outer : List Env) (s : Shared) (H : Hp) (vs : List V) (Q : VK), Room (k + 1) A → sp vs H Q E0 → ∃ (x dx : Addr) (fs : List (Str × V)) (t : TA) (u : TS), vs[0]? = some (.ref x) ∧ H x = some (.ins C dx fs) ∧ PA (cxS P w K mg base ps qual (defScope st) f (.ref cda) cc A outer s H) (e :: es) t ∧
      PSs (cxS P w K mg base ps qual (defScope st) f (.ref cda) cc A outer s H) rest u ∧ t (vs.map some) H (fun ws H1 => sp2 (.ref x :: ws) H1 (fun _ H2 => u { nx := fun _ H' => Q .non H', rt := Q } (vs.map some) H2) E0)) :
    FnOk P w K mg base CX0 (k + 1) f fd ps sp := by
  refine ⟨many, fun A outer s H args us vs Q E hr e0 bind rel hsp => ?_⟩
  obtain ⟨oc, od, kV, doc, pm, an, cda, cc, ct, osl, ck, cdd, cvs, ccs, tf, lk, ld, ls, rfl, lf, hcode, lcda, hvs, lcc⟩ := F.ex
  have old : ∀ b o, base.get? b = some o → s.heap.get? b = some o := fun b o e => (e0.bs b o e).1
  have KX : K.In s.heap := e0.mod.kin.keeps old
  have lim : s.heap.NoLimit := e0.mod.nolimit.keeps old
  refine ks_codeAny_call_defAt (body := defBody st) (binds := ps.zip us) hr.depth (KX _ _ lf) rfl lim (PySem.W.codeRec_of KX hcode) rfl bind S.nocell (fun y hy => S.par _ (List.of_mem_zip (a := y.1) (b := y.2) hy).1) (fun h1 ns hk => ?_) S.co S.gen S.kind
  have I := inv_super (qual := qual) (f := f) (cd := .ref cda) (tk := s.toks + (ps.zip us).length) S hr.hd e0 (many _ _ _ _ hsp) rel lcc ns hk
  obtain ⟨x, dx, fs, t, u, hx0, hx, pa, pr, q⟩ := want A cda cc outer s H vs Q hr (hE hsp)
  obtain ⟨mA, O, _⟩ := ins_get I.hok hx
  obtain ⟨od', J, _⟩ := O.look
  obtain ⟨cdD, hcD⟩ := hcd
  have KX1 := I.kIn
  obtain ⟨oD, hD1, hD2⟩ : ∃ oD, h1.get? D = some oD ∧ oD.data = .cls cdD := by
    have hcD' := hcD
    unfold PySem.W.clsIn at hcD'
    split at hcD'
    · rename_i ho
      cases hcD'
      exact ⟨_, KX1 _ _ ho, rfl⟩
    · cases hcD'
  obtain ⟨mb, hb1, hb2⟩ := I.mod.blt
  obtain ⟨ar, har, ear⟩ := hself
  obtain ⟨ux, hux, rux⟩ := rel.get hx0
  obtain rfl : ux = Value.ref x := rux
  have hC : ∃ cdC, PySem.W.clsIn K C = some cdC := by
    cases z : PySem.W.clsIn K C with
    | some c => exact ⟨c, rfl⟩
    | none =>
      unfold PySem.W.ks_superIn at hm
      rw [z] at hm
      cases hm
  obtain ⟨cdC, hcC⟩ := hC
  have hm' : PySem.W.alongIn K m ((cdC.mro.dropWhile (· != .ref D)).drop 1) = some (some (.ref f2)) := by
    unfold PySem.W.ks_superIn at hm
    rw [hcC] at hm
    exact hm
  have key : PySem.wpAt (model P w) (cxS P w K mg base ps qual (defScope st) f (.ref cda) cc A outer s H).A (.func (defBody st) (cxS P w K mg base ps qual (defScope st) f (.ref cda) cc A outer s H).env) (execs (defBody st) (cxS P w K mg base ps qual (defScope st) f (.ref cda) cc A outer s H).env)
      (SP (cxS P w K mg base ps qual (defScope st) f (.ref cda) cc A outer s H) [] { nx := fun _ H' => Q .non H', rt := Q }) (fun _ _ => False) { s with heap := h1, toks := s.toks + (ps.zip us).length } := by
    have e1 := congrArg (fun b => execs b (cxS P w K mg base ps qual (defScope st) f (.ref cda) cc A outer s H).env) hb
    rw [show execs (defBody st) (cxS P w K mg base ps qual (defScope st) f (.ref cda) cc A outer s H).env = _ from e1]
    obtain ⟨pl, epl⟩ := hev (cxS P w K mg base ps qual (defScope st) f (.ref cda) cc A outer s H).env
    refine ks_wpAt_execs_cons (ks_wpAt_Expr_any (ks_wpAt_MethodCall ?_ epl) (by show ((defScope st).kind == .module && _) = false; rw [S.kind]; rfl) (hsw _))
    refine ks_wpAt_super_base S.sup S.cls hn rfl (KX1 _ _ lf) rfl har rfl (KX1 _ _ lcda) rfl hvs hfile htop ?_
    refine PySem.W.ks_loadName_global S.kind S.sup (PySem.Calls.loadGlobal_builtin (I.mod.glob.keeps I.bk) hsu (hb1.keeps I.bk) ((hb2 _ (by decide)).trans (by rfl)) ⟨rfl, ?_⟩)
    refine wpAny_loadName_free S.kind S.cls rfl ⟨_, KX1 _ _ lcc, rfl⟩ ?_
    refine wpAny_loadName_local S.kind (by rw [ear]; exact S.par self (List.mem_of_getElem? h0)) ns (by rw [ear]; exact rev_get S.nd h0 hux) ?_
    refine ks_wpAny_isType_cls hD1 hD2 ⟨rfl, ?_⟩
    refine ks_wpAny_call_super hD1 hD2 J.at_ J.cls (fun c e => ?_) (PySem.W.looks_mroIn KX1 hsub) (fun h' e ke => ?_)
    · have z := J.no
      unfold PySem.W.notCls at z
      rw [e] at z
      cases z
    have I1 := ClX.pin_new (t' := s.toks + (ps.zip us).length) I ke (Nat.le_refl _) e (fun v z => nomatch z)
    obtain ⟨of2, hof2, hof2c⟩ : ∃ of, h'.get? f2 = some of ∧ of.cls = .type "function" := by
      have ty' : (K.lookup f2).map (·.cls) = some (.type "function") := ty
      obtain ⟨of, z1, z2⟩ := Option.map_eq_some_iff.mp ty'
      exact ⟨of, I1.kIn _ _ z1, z2⟩
    refine ks_wpAny_getMethod_super e (PySem.W.looks_opaque I1.kIn hop) (l₀ := cdC.mro) (fun A Q E s k q => wpAny_bind ((PySem.W.looks_clsIn I1.kIn hcC) A _ E s k (wpAny_pure q))) rfl I1.kIn hm' hof2 hof2c (PySem.W.ks_ne KX1 J hcC) hn ?_
    have I2 := ClX.met_new (g := f2) (C := x) I1
    refine ClX.callwith_cm I2 (ClX.base_none I1 (Nat.le_refl _)) fi (thn (pa.run pos _ _ _ H _ I2 q) fun ws s3 ⟨zs, H2, I3, rv, q2⟩ => ⟨⟨ClX.pin_at I3, I3.kIn⟩, ?_⟩) (hst _) (hpl _)
    refine thn (ClX.run_cm G2 (hr.deeper _) pass0 I3 rv q2) fun r s4 ⟨v4, H4, I4, _, q4⟩ => ?_
    exact PySem.wpAt_of_wpAny (pr.run [] _ _ H4 _ (ClX.unpin I4) q4)
  refine ks_wpAt_mono key (fun fl s' hs => ?_) fun _ _ z => False.elim z
  cases fl with
  | ret v =>
    obtain ⟨v', σ', H', J, rv, q⟩ := hs
    exact ⟨v', H', J.os, J.bare, J.base, J.hok, rv, q⟩
  | next =>
    obtain ⟨σ', H', J, q⟩ := hs
    exact ⟨V.non, H', J.os, J.bare, J.base, J.hok, rfl, q⟩
  | brk =>
    obtain ⟨_, _, _, q⟩ := hs
    exact q.elim
  | cont =>
    obtain ⟨_, _, _, q⟩ := hs
    exact q.elim
end
/-! ### sets of texts -/
/-- the text that an entry of a set's table holds -/
def txV : Value → Str
  | .str k _ => k
  | _ => Str.empty
def txOf (e : Int × Value) : Str := txV e.2
/-- an entry is a text with its own hash -/
def TxE (w : World) (e : Int × Value) : Prop := ∃ k u, e.2 = Value.str k u ∧ e.1 = hashStr w k
/-- the table of a set whose members are ks -/
structure TxT (w : World) (es : Array (Int × Value)) (t : SetTable) (ks : List Str) : Prop where
  ent : ∀ e ∈ es.toList, TxE w e
  mem : (es.toList.map txOf).Perm ks
  nd : ks.Nodup
  few : es.size < scanBound
  fit : t.fits es.size = true
  ris : Ris t.place.toList
  led : w.params.followText "set-order" = true ∨ t.led = true
/-- at a the set of the texts ks -/
def TxS (w : World) (h : Heap) (a : Addr) (ks : List Str) : Prop := ∃ (o : Obj) (es : Array (Int × Value)) (ep : Nat) (t : SetTable), h.get? a = some o ∧ o.ExactSet ∧ o.data = .set es ep t ∧ TxT w es t ks
theorem TxS.keep {w : World} {h h' : Heap} {a : Addr} {ks : List Str} (R : TxS w h a ks) (k : ∀ o, h.get? a = some o → h'.get? a = some o) : TxS w h' a ks :=
  let ⟨o, es, ep, t, ho, r⟩ := R
  ⟨o, es, ep, t, k o ho, r⟩
theorem tx_is {P : Program} {w : World} {e : Int × Value} (g : TxE w e) (k : Str) : (PySem.strKind P w).is k e.2 = true ↔ txOf e = k := by
  obtain ⟨k0, u, h1, _⟩ := g
  have z : txOf e = k0 := by unfold txOf; rw [h1]; rfl
  rw [z, h1]
  constructor
  · intro q
    exact (PySem.strKind P w).inj _ _ _ (strKind_is P w k0 u) q
  · rintro rfl
    exact strKind_is P w _ u
section
variable {P : Program} {w : World} {A : Around} {E : Value → Shared → Prop} {s : Shared} {a : Addr}
theorem TxT.elems {es : Array (Int × Value)} {t : SetTable} {ks : List Str} (T : TxT w es t ks) : ElemsOf (PySem.strKind P w) es.toList := fun e he => by
  obtain ⟨k, u, h1, h2⟩ := T.ent e he
  exact ⟨⟨k, by rw [h1]; exact strKind_is P w k u, h2⟩, by rw [h1]; rfl⟩
theorem TxT.relaid {es es' : Array (Int × Value)} {t t' : SetTable} {ks : List Str} (T : TxT w es t ks) (p : es'.toList.Perm es.toList) (hf : t'.fits es'.size = true) (hr : Ris t'.place.toList) (hl : t'.led = t.led) : TxT w es' t' ks := by
  have n : es'.size = es.size := by
    rw [← Array.length_toList, ← Array.length_toList]
    exact p.length_eq
  exact ⟨fun e he => T.ent e (p.mem_iff.mp he), (p.map txOf).trans T.mem, T.nd, n ▸ T.few, hf, hr, by rw [hl]; exact T.led⟩
theorem tx_store {h : Heap} {o : Obj} {es es' : Array (Int × Value)} {ep : Nat} {t t' : SetTable} (ho : h.get? a = some o) (hd : o.data = .set es ep t) : (h.update a (Obj.putSet es' t')).get? a = some { o with data := .set es' (ep + 1) t' } :=
  L2.store_at ho hd
theorem tx_tail {g : Bool → Sem Unit} (free : ∀ (b : Bool) (r : Shared) (Z : Unit → Shared → Prop), Z () r → wpAny (model P w) A (g b) Z E r) {o : Obj} {es es1 : Array (Int × Value)} {ep : Nat} {t t2 : SetTable} {ks : List Str} (ho : s.heap.get? a = some o) (hx : o.ExactSet)
    (hd : o.data = .set es ep t) (T : TxT w es1 t2 ks) {wd : Bool} {Z : Option Bool → Shared → Prop} (hZ : ∀ h', Heap.SameBut a s.heap h' → TxS w h' a ks → Z (some true) { s with heap := h' }) :
    wpAny (model P w) A (storeSet a es1 t2 >>= fun _ => if (!wd && t2.tooFull) = true then g (relayAll t2 es1 (SetTable.grown es1.size)).2.2 >>= fun _ => storeSet a (relayAll t2 es1 (SetTable.grown es1.size)).1 (relayAll t2 es1 (SetTable.grown es1.size)).2.1 >>= fun _ => pure (some true) else pure (some true)) Z E s := by
  refine wpAny_bind (wpAny_storeSet_of ho hd ?_ (fits_of_scanBound T.few))
  have o1 := tx_store (es' := es1) (t' := t2) ho hd
  have b1 := Heap.SameBut.update s.heap a (Obj.putSet es1 t2)
  split
  · have T2 := T.relaid (relayAll_perm t2 es1 (SetTable.grown es1.size)) (relayAll_fits t2 es1 _) (L2.relayAll_ris t2 es1 _) (L2.relayAll_led t2 es1 _)
    revert T2
    generalize relayAll t2 es1 (SetTable.grown es1.size) = z
    intro T2
    refine wpAny_bind (free _ _ _ (wpAny_bind (wpAny_storeSet_of o1 rfl ?_ (fits_of_scanBound T2.few))))
    exact wpAny_pure (hZ _ (b1.trans (Heap.SameBut.update _ a _)) ⟨_, z.1, _, z.2.1, tx_store (es' := z.1) (t' := z.2.1) o1 rfl, hx, rfl, T2⟩)
  · exact wpAny_pure (hZ _ b1 ⟨_, es1, _, t2, o1, hx, rfl, T⟩)
theorem tx_add {ks : List Str} {k : Str} {u : Tok} {Z : Bool → Shared → Prop} (R : TxS w s.heap a ks) (room : ks.length + 1 < scanBound)
    (hZ : ∀ h' b ks', Heap.SameBut a s.heap h' → TxS w h' a ks' → (∀ x, x ∈ ks' ↔ x = k ∨ x ∈ ks) → ks'.length ≤ ks.length + 1 → Z b { s with heap := h' }) : wpAny (model P w) A (setAddHashed a (.str k u) ((PySem.strKind P w).hash k)) Z E s := by
  obtain ⟨o, es, ep, t, ho, hx, hd, T⟩ := R
  have hsc : (Value.str k u).scannable = true := rfl
  unfold setAddHashed setAddHashedIn
  refine wpAny_holding (wpAny_bind (wpAny_setState_of ho hd T.fit ?_))
  show wpAny _ _ (if byScan (.str k u) es = true then _ else _) _ _ _
  rw [if_pos (byScan_of hsc T.few (T.elems (P := P)))]
  unfold setAddByScan
  refine wpAny_bind (wpAny_bind (wpAny_rule (wpAny_bind (wpAny_setScan_of (strKind_is P w k u) ho hd T.fit T.elems ?_))))
  cases hf : es.toList.findIdx? (fun e => (PySem.strKind P w).is k e.2) with
  | some j =>
    obtain ⟨hj, pj, _⟩ := List.findIdx?_eq_some_iff_getElem.mp hf
    have hk : k ∈ ks := T.mem.mem_iff.mp (List.mem_map.mpr ⟨_, List.getElem_mem hj, (tx_is (T.ent _ (List.getElem_mem hj)) k).mp pj⟩)
    refine wpAny_pure (wpAny_pure (hZ s.heap _ ks (Heap.SameBut.refl a s.heap) ⟨o, es, ep, t, ho, hx, hd, T⟩ (fun x => ⟨.inr, fun q => q.elim (fun e => e ▸ hk) id⟩) (Nat.le_succ _)))
  | none =>
    have hk : k ∉ ks := fun q => by
      obtain ⟨e, he, ee⟩ := List.mem_map.mp (T.mem.mem_iff.mpr q)
      have c := List.findIdx?_eq_none_iff.mp hf e he
      rw [(tx_is (T.ent e he) k).mpr ee] at c
      cases c
    have gw : ∀ (b : Bool) {r : Shared} {Y : Unit → Shared → Prop}, Y () r → wpAny (model P w) A (match b with | true => rule "set.scan.the-table-gave-way" | false => pure ()) Y E r := fun b r Y q => by
      cases b
      · exact wpAny_pure q
      · exact wpAny_rule q
    have pm := layNew_perm t es ((PySem.strKind P w).hash k) (.str k u)
    have f1 := layNew_fits t es ((PySem.strKind P w).hash k) (.str k u)
    have r1 := L2.layNew_ris t es ((PySem.strKind P w).hash k) (.str k u) T.ris
    have l1 := L2.layNew_led t es ((PySem.strKind P w).hash k) (.str k u)
    dsimp only
    revert pm f1 r1 l1
    generalize layNew t es ((PySem.strKind P w).hash k) (.str k u) = z
    obtain ⟨es1, t1, wd, gave⟩ := z
    dsimp only
    intro pm f1 r1 l1
    rw [Array.toList_push] at pm
    have pc : es1.toList.Perm (((PySem.strKind P w).hash k, Value.str k u) :: es.toList) := pm.trans (List.perm_append_singleton _ _)
    have n1 : es1.size = es.size + 1 := by
      rw [← Array.length_toList, pc.length_eq, List.length_cons, Array.length_toList]
    have n2 : ks.length = es.size := by
      rw [← T.mem.length_eq, List.length_map, Array.length_toList]
    have mk : ∀ t2 : SetTable, t2.fits es1.size = true → Ris t2.place.toList → t2.led = t1.led → TxT w es1 t2 (k :: ks) := fun t2 q1 q2 q3 =>
      ⟨fun e he => (List.mem_cons.mp (pc.mem_iff.mp he)).elim (fun q => by rw [q]; exact ⟨k, u, rfl, rfl⟩) (T.ent e), (pc.map txOf).trans (T.mem.cons k), List.nodup_cons.mpr ⟨hk, T.nd⟩, by rw [n1, ← n2]; exact room, q1, q2, by rw [q3, l1]; exact T.led⟩
    have fin : ∀ h', Heap.SameBut a s.heap h' → TxS w h' a (k :: ks) → Z true { s with heap := h' } := fun h' sb r => hZ h' true (k :: ks) sb r (fun x => List.mem_cons) (Nat.le_refl _)
    refine wpAny_bind (gw _ ?_)
    split
    · refine wpAny_bind ?_
      rw [hashByValue_scannable 8 hsc]
      refine wpAny_pure (tx_tail (fun b r Y q => gw b q) ho hx hd (mk _ ?_ ?_ ?_) fun h' sb r => wpAny_pure (fin h' sb r))
      · first | (split <;> first | exact f1 | exact SetTable.fits_plain_off f1) | exact f1
      · first | (split <;> exact r1) | exact r1
      · first | (split <;> rfl) | rfl
    · refine wpAny_bind (wpAny_pure ?_)
      simp only [↓reduceIte]
      exact tx_tail (fun b r Y q => gw b q) ho hx hd (mk t1 f1 r1 rfl) fun h' sb r => wpAny_pure (fin h' sb r)
end
/-! ### set(a list of texts), sorted(a set of texts) -/
abbrev newSetO (w : World) : Obj := { cls := .type "set", dict := none, data := .set #[] 0 (.fresh 0 0 (!w.params.followText "set-order")) }
theorem tx_new {w : World} {h : Heap} {a : Addr} (e : h.get? a = some (newSetO w)) : TxS w h a [] := by
  refine ⟨_, #[], 0, _, e, ⟨rfl, rfl, rfl⟩, rfl, fun e he => ?_, .nil, List.nodup_nil, by decide, by rfl, List.Pairwise.nil, ?_⟩
  · simp at he
  · show _ ∨ (!w.params.followText "set-order") = true
    cases w.params.followText "set-order"
    · exact .inr rfl
    · exact .inl rfl
section
variable {P : Program} {w : World} {A : Around} {E : Value → Shared → Prop} {s : Shared}
theorem tx_fill {I S : Addr} {fp wr : List Addr} {G : Array GenState → Array GenState → Prop} {n : Nat} {Pv : Nat → Value → Prop} {St : Nat → Shared → Prop} {Z : Result → Shared → Prop} (W : WalksS P w A.in1 I fp wr G n Pv St) (nS : S ∉ fp) (xs : List Str) (en : n = xs.length) (room : xs.length + 1 < scanBound)
    (txt : ∀ i v, Pv i v → ∃ k u, xs[i]? = some k ∧ v = .str k u) : ∀ (m i : Nat) (s : Shared), n - i = m → i ≤ n → St i s → (∃ ks, TxS w s.heap S ks ∧ (∀ x, x ∈ ks ↔ x ∈ xs.take i) ∧ ks.length ≤ i) →
      (∀ s' ks, Moved (S :: wr) G s s' → TxS w s'.heap S ks → (∀ x, x ∈ ks ↔ x ∈ xs) → ks.length ≤ n → Z (.ok (.ret .none)) s') → codeAny (model P w) A (.builtin "set.update.loop" ⟨[.ref S, .ref I], []⟩) Z s := by
  have nW : S ∉ wr := fun q => nS (W.sub _ q)
  have up : ∀ b ∈ wr, b ∈ S :: wr := fun b q => List.mem_cons_of_mem _ q
  intro m
  induction m with
  | zero =>
    rintro i s hm hi st ⟨ks, R, sub, len⟩ fin
    obtain rfl : i = n := by omega
    rw [List.take_of_length_le (by omega)] at sub
    refine codeAny_builtin PyProof.Rows.F.entry_set_update_loop ?_
    rw [Around.under_plainId PyProof.Rows.F.plain_set_update_loop _]
    show wpAny _ A.in1 (pyNext (.ref I) >>= _) _ _ _
    refine wpAny_bind (W.done s _ _ st fun s' mv => ?_)
    exact wpAny_pure (fin s' ks (mv.mono up) (R.keep fun o e => mv.heap S o nW e) sub len)
  | succ m ih =>
    rintro i s hm hi st ⟨ks, R, sub, len⟩ fin
    have lt : i < n := by omega
    refine codeAny_builtin PyProof.Rows.F.entry_set_update_loop ?_
    rw [Around.under_plainId PyProof.Rows.F.plain_set_update_loop _]
    show wpAny _ A.in1 (pyNext (.ref I) >>= _) _ _ _
    refine wpAny_bind (W.item i s _ _ lt st fun v s' pv st' mv => ?_)
    obtain ⟨k, u, hk, rfl⟩ := txt i v pv
    have R1 : TxS w s'.heap S ks := R.keep fun o e => mv.heap S o nW e
    show wpAny _ A.in1 (holding [Value.str k u] (setAdd S (.str k u)) >>= _) _ _ _
    refine wpAny_bind (wpAny_holding ?_)
    unfold setAdd
    refine wpAny_holding (wpAny_bind ((PySem.strKind P w).pyHash (k := k) (strKind_is _ _ _ _) ?_))
    refine tx_add (s := { s' with toks := s'.toks + 1 }) R1 (by omega) fun h' b ks' sb R2 mem ln => ?_
    refine wpAny_pure ⟨plainId_quiet PyProof.Rows.F.plain_set_update_loop _, ih (i + 1) _ (by omega) lt (W.frame _ s' _ _ st' (Nat.le_succ _) fun c hc o e => ?_) ⟨ks', R2, fun x => ?_, by omega⟩ fun s'' ks'' mv2 R3 sub3 ln3 => ?_⟩
    · rw [sb.2 c (fun q : c = S => nS (q ▸ hc))]
      exact e
    · rw [mem x, List.take_add_one, hk, List.mem_append, sub x]
      exact ⟨fun q => q.elim (fun e => .inr (by rw [e]; exact List.mem_singleton.mpr rfl)) .inl, fun q => q.elim .inr fun e => .inl (List.mem_singleton.mp e)⟩
    · refine fin s'' ks'' (Moved.trans W.gtrans ((mv.mono up).then_heap (Nat.le_succ _) fun c o hc e => ?_) mv2) R3 sub3 ln3
      rw [sb.2 c (fun q : c = S => hc (by rw [q]; exact List.mem_cons_self))]
      exact e
set_option maxHeartbeats 8000000 in
theorem tx_make {l : Addr} {its : Array Value} (xs : List Str) {Z : Value → Shared → Prop} (calm : A.handled = none) (hl : s.heap.IsList l its) (hx : StrsAre its.toList xs) (room : xs.length + 1 < scanBound)
    (hZ : ∀ (h' : Heap) (tk : Nat) (ks : List Str), TxS w h' s.heap.objs.size ks → (∀ x, x ∈ ks ↔ x ∈ xs) → ks.length ≤ xs.length → (∀ b o, s.heap.get? b = some o → h'.get? b = some o) → Z (.ref s.heap.objs.size) { s with heap := h', toks := tk }) :
    wpAny (model P w) A (call (.type "set") [.ref l]) Z E s := by
  have many : its.size = xs.length := by
    have q := StrsAre.len_eq hx
    rw [Array.length_toList] at q
    exact q
  obtain ⟨_, _, m1⟩ := PySem.F.called_set.mro; have m2 := PySem.F.called_set.made; have m3 := PySem.F.called_set.sub
  refine wpAny_call (codeAny_of_tree ?_)
  show wpAny _ _ (callAny (.type "set") ⟨[.ref l], []⟩) _ _ _
  refine wpAny_pure ⟨Code.quiet_builtin _ (by decide +kernel), codeAny_builtin PySem.F.entry_type_call ?_⟩
  rw [Around.under_plain (weight_type_call_type "set" [.ref l] []) rfl]
  have c1 := PySem.F.called_set.notType; have c2 := PySem.F.called_set.canCreate; have c3 := PySem.F.typeCall_set_1 (.ref l)
  repeat (any_goals (first | assumption | wp_step))
  refine codeAny_mono (L2.code_set_led1 (.ref l) (E := E) (Q₁ := fun v r => v = .ref s.heap.objs.size ∧ r = { s with heap := s.heap.push (newSetO w) }) ⟨rfl, rfl⟩) fun res r1 hr => ?_
  match res, hr with
  | .error e, hr => exact hr
  | .ok (.ret v), hr =>
    obtain ⟨rfl, rfl⟩ := hr
    have at0 : (s.heap.push (newSetO w)).get? s.heap.objs.size = some (newSetO w) := Heap.get?_push_size _ rfl
    have ty0 : Shared.TypeIs { s with heap := s.heap.push (newSetO w) } (.ref s.heap.objs.size) "set" := ⟨_, at0, rfl⟩
    have i1 := PySem.F.called_set.init.lookup; have i2 := PySem.F.called_set.init.bind (.ref s.heap.objs.size)
    repeat (any_goals (first | assumption | wp_step))
    refine codeAny_mono (codeAny_call_builtin (R := wants (fun v r => v = .none ∧ ∃ h' tk ks, r = { s with heap := h', toks := tk } ∧ TxS w h' s.heap.objs.size ks ∧ (∀ x, x ∈ ks ↔ x ∈ xs) ∧ ks.length ≤ xs.length ∧ ∀ b o, s.heap.get? b = some o → h'.get? b = some o) E) PySem.F.called_set.init.plain
      PySem.F.entry_set_init (check_set_init_1 ty0 ?_)) fun res2 r2 hr2 => ?_
    · obtain ⟨⟨ocls, od, odt, osl⟩, e0, e1, nn, e2⟩ := hl
      simp only at e1 e2
      subst e1; subst e2
      have lS : l < s.heap.objs.size := Heap.lt_size e0
      have e3 := Heap.get?_push_of_some (newSetO w) e0
      have d1 := PySem.F.sub_list_set; have d2 := PySem.F.sub_list_frozenset; have d3 : (Value.type "list" == Value.type "dict") = false := by decide
      have l1 : (s.heap.push (newSetO w)).IsList l its := ⟨_, e3, rfl, nn, rfl⟩
      unfold Builtin.«set.__init__» noKeywords Builtin.Frozenset.updateFrom
      generalize hPI : pyIter = PI
      wp_walk
      subst hPI
      refine wpAny_pyIter_list l1 (wpAny_bind (wpAny_runValue ?_))
      have z1 : (s.heap.push (newSetO w)).objs.size = s.heap.objs.size + 1 := Heap.size_push ..
      have far : l ≠ (s.heap.push (newSetO w)).objs.size := by
        rw [z1]
        exact Nat.ne_of_lt (Nat.lt_succ_of_lt lS)
      have out : s.heap.objs.size ∉ [(s.heap.push (newSetO w)).objs.size, l] := by
        rw [z1, List.mem_cons, List.mem_singleton]
        exact fun q => q.elim (Nat.ne_of_lt (Nat.lt_succ_self _)) (Nat.ne_of_gt lS)
      refine tx_fill ((Walks.list (show A.in1.in1.in1.handled = none by simp [calm]) _ l far its).toS) out xs many room (fun i v hv => ?_) (its.size - 0) 0 _ rfl (Nat.zero_le _) ⟨⟨_, Heap.get?_push_size _ rfl, rfl, rfl⟩, l1.push _⟩ ⟨[], tx_new (Heap.get?_push_of_some _ at0), fun _ => Iff.rfl, Nat.le_refl _⟩ fun r ks mv R sub ln => ?_
      · have hi : i < xs.length := by
          rw [← many]
          exact (Array.getElem?_eq_some_iff.mp hv).1
        obtain ⟨u, e⟩ := SS.strs_at hx i v (by rw [Array.getElem?_toList]; exact hv)
        exact ⟨xs[i], u, List.getElem?_eq_getElem hi, by rw [e, List.getD_eq_getElem?_getD, List.getElem?_eq_getElem hi]; rfl⟩
      · obtain ⟨h', g', d', tk', os'⟩ := r
        obtain rfl : g' = s.gens := mv.gens
        obtain rfl : d' = s.drawn := mv.drawn
        obtain rfl : os' = s.os := mv.os
        show wpAny _ _ _ _ _ _
        refine wpAny_pure ?_
        show wpAny _ _ (ret Value.none) _ _ _
        refine wpAny_pure ⟨rfl, h', tk', ks, rfl, R, sub, by omega, fun b o e => ?_⟩
        have b0 : b < s.heap.objs.size := Heap.lt_size e
        refine mv.heap b o ?_ (Heap.get?_push_of_some _ (Heap.get?_push_of_some _ e))
        rw [List.mem_cons, List.mem_singleton, z1]
        exact fun q => q.elim (Nat.ne_of_lt b0) (Nat.ne_of_lt (Nat.lt_succ_of_lt b0))
    · match res2, hr2 with
      | .error e, hr2 => exact hr2
      | .ok (.ret v), hr2 =>
        obtain ⟨rfl, h', tk, ks, rfl, R, sub, ln, kp⟩ := hr2
        repeat (any_goals (first | assumption | wp_step))
        exact hZ _ _ _ R sub ln kp
theorem strs_of : ∀ l : List Value, (∀ v ∈ l, ∃ k u, v = Value.str k u) → ∃ xs, StrsAre l xs ∧ xs.length = l.length ∧ ∀ x ∈ xs, ∃ u, Value.str x u ∈ l
  | [], _ => ⟨[], .nil, rfl, fun _ h => absurd h List.not_mem_nil⟩
  | v :: l, h => by
    obtain ⟨k, u, rfl⟩ := h v List.mem_cons_self
    obtain ⟨xs, h1, h2, h3⟩ := strs_of l fun r hr => h r (List.mem_cons_of_mem _ hr)
    refine ⟨k :: xs, .cons k u h1, by rw [List.length_cons, List.length_cons, h2], fun x hx => ?_⟩
    rcases List.mem_cons.mp hx with rfl | hx
    · exact ⟨u, List.mem_cons_self⟩
    · obtain ⟨r, hr⟩ := h3 x hx
      exact ⟨r, List.mem_cons_of_mem _ hr⟩
end
section
variable {P : Program} {w : World} {A : Around} {E : Value → Shared → Prop} {s : Shared}
theorem strs_tx : ∀ {l : List Value}, (∀ v ∈ l, ∃ k u, v = Value.str k u) → StrsAre l (l.map txV)
  | [], _ => .nil
  | v :: l, h => by
    obtain ⟨k, u, rfl⟩ := h v List.mem_cons_self
    exact .cons k u (strs_tx fun x hx => h x (List.mem_cons_of_mem _ hx))
theorem tx_sorted {a : Addr} {ks : List Str} {Z : Value → Shared → Prop} (R : TxS w s.heap a ks) (calm : A.handled = none)
    (hZ : ∀ s' p (out : Array Value) (c : Nat) (ys : List Str), (∀ b o, s.heap.get? b = some o → s'.heap.get? b = some o) → s'.gens = s.gens → s'.os = s.os → s.heap.objs.size ≤ p → s'.heap.get? p = some (seqObj "list" out c) → StrsAre out.toList ys → ys.Perm ks → sortedS ys = true → Z (.ref p) s') :
    wpAny (model P w) A (call (.builtin "sorted") [.ref a]) Z E s := by
  obtain ⟨o, es, ep, t, ho, hx, hd, T⟩ := R
  refine Calls.call_function_entry kind_sorted plain_sorted entry_sorted (args_sorted1 _) ?_
  unfold Builtin.«sorted»
  refine wpAny_bind (m := checkCount "sorted" 1 1 _) (wpAny_pure (wpAny_bind (L2.collect_set (A := A.in1) calm ⟨o, ho, hx.1, hd⟩ T.fit T.few T.ris T.led fun s1 vs k1 z1 g1 o1 pm => ?_)))
  have hS : StrsAre vs (vs.map txV) := strs_tx fun v hv => by
    obtain ⟨e, he, rfl⟩ := List.mem_map.mp (pm.mem_iff.mp hv)
    obtain ⟨k, u, q, _⟩ := T.ent e he
    exact ⟨k, u, q⟩
  have p1 : (vs.map txV).Perm (es.toList.map txOf) := by
    have q := pm.map txV
    rw [List.map_map] at q
    exact q
  have len : vs.length ≤ sizeLine := by
    rw [pm.length_eq, List.length_map, Array.length_toList]
    exact fits_of_scanBound T.few
  refine wpAny_bind (wpAny_newList ?_ len)
  have at1 : (s1.heap.push (seqObj "list" vs.toArray 0)).get? s1.heap.objs.size = some (seqObj "list" vs.toArray 0) := Heap.get?_push_size _ rfl
  refine wpAny_bind (wpAny_holding (wpAny_call_entry slot_list_sort ⟨_, at1, rfl⟩ entry_list_sort (list_sort_treeKAny strKind_oneLt at1 hS.keysOf (fun v1 v2 rest e => keyKind_strs (by rw [← e]; exact hS)) len fun st' a1 a2 => ⟨_, rfl, ?_⟩) (args_list_sort _)))
  obtain ⟨ys, y1, y2, y3⟩ := sorted_out_str hS a1 a2
  obtain ⟨c, hc⟩ := sortedHeap_at (vs := vs) (out := (arrOf st').map (·.2)) at1
  refine wpAny_pure ⟨_, rfl, hZ _ s1.heap.objs.size _ c ys (fun b u e => ?_) g1 o1 z1 hc y1 (y2.trans (p1.trans T.mem)) y3⟩
  have q := k1 b u e
  have lt := Heap.lt_size q
  show (sortedHeap (s1.heap.push (seqObj "list" vs.toArray 0)) s1.heap.objs.size (vs) ((arrOf st').map (·.2))).get? b = some u
  rw [sortedHeap_old (Nat.ne_of_lt lt) (by rw [size_push']; exact Nat.lt_succ_of_lt lt)]
  exact Heap.get?_push_of_some _ q
end
/-! ### as rules -/
def TxO (w : World) (a : Addr) (ks : List Str) : HO := .ext fun h => TxS w h a ks
section
variable {X : Cx}
theorem txO_new {w : World} {P : Program} {H : Hp} {h : Heap} {a : Addr} {ks : List Str} (R : TxS w h a ks) : ObjOk P w H h a (TxO w a ks) := by
  have ⟨o, _, _, _, ho, _⟩ := R
  exact ⟨R, ⟨o, ho⟩, fun _ _ p k => p.keep k⟩
/-- set(a list of texts) -/
def rSetTx (w : World) (K : PySem.W.Frag) : List V → Hp → VK → Prop := fun xs H Q => ∃ (a : Addr) (ys : List Str), xs = [.ref a] ∧ SqL K H a (ys.map V.str) ∧ ys.length < 4000 ∧ ∀ (p : Addr) (ks : List Str), H p = none → ks.Nodup → (∀ x, x ∈ ks ↔ x ∈ ys) → ks.length ≤ ys.length → Q (.ref p) (upd H p (TxO w p ks))
theorem cr_setTx (calm : X.calm = true) : CallR X (.type "set") (rSetTx X.w X.K) := by
  intro pins s σ H xs us Q I r h
  obtain ⟨a, ys, rfl, hs, hl, q⟩ := h
  obtain ⟨its, rv, at1, _⟩ := I.list hs
  rw [Vals.ref1 r]
  refine tx_make ys (I.ok.hd calm) at1.isList (by rw [List.toList_toArray]; exact rv.strs) (by show ys.length + 1 < 4096; omega) fun h' tk ks R sub ln kp => ?_
  have hn : H s.heap.objs.size = none := I.hok.fresh (Nat.le_refl _)
  exact ⟨.ref s.heap.objs.size, _, I.laid (t' := tk) kp (Nat.le_refl _) (txO_new R), rfl, q _ ks hn (let ⟨_, _, _, _, _, _, _, T⟩ := R; T.nd) sub ln⟩
/-- sorted(a set of texts) -/
def rSortTx (w : World) : List V → Hp → VK → Prop := fun xs H Q => ∃ (a : Addr) (ks : List Str), xs = [.ref a] ∧ H a = some (TxO w a ks) ∧ ∀ (p : Addr) (ys : List Str), H p = none → ys.Perm ks → sortedS ys = true → Q (.ref p) (upd H p (.lst (ys.map V.str)))
theorem cr_sortTx (calm : X.calm = true) : CallR X (.builtin "sorted") (rSortTx X.w) := by
  intro pins s σ H xs us Q I r h
  obtain ⟨a, ks, rfl, ha, q⟩ := h
  have R : TxS X.w s.heap a ks := (I.hok a _ ha).1
  have few : ks.length < 4096 := by
    obtain ⟨_, es, _, _, _, _, _, T⟩ := R
    rw [← T.mem.length_eq, List.length_map, Array.length_toList]
    exact T.few
  rw [Vals.ref1 r]
  refine tx_sorted R (I.ok.hd calm) fun s' p out c ys k g o hp hg hy pm up => ?_
  have hn : H p = none := I.hok.fresh hp
  have hlen : (ys.map V.str).length ≤ sizeLine := by
    rw [List.length_map, pm.length_eq, sizeLine_eq]
    omega
  have J : Inv X pins σ (upd H p (.lst (ys.map V.str))) { s with heap := s'.heap, gens := s'.gens, drawn := s'.drawn, toks := s'.toks } :=
    I.call (ch := []) (Un.laid k hp hn) (I.hok.laid k hp ⟨hlen, out.toList, c, vals_of_strs hy, hg⟩) (by rw [g]; exact I.bare) (fun _ z => nomatch z)
  have e : s' = { s with heap := s'.heap, gens := s'.gens, drawn := s'.drawn, toks := s'.toks } := by
    obtain ⟨_, _, _, _, _⟩ := s'
    cases o
    rfl
  rw [e]
  exact ⟨.ref p, _, J, rfl, q p ys hn pm up⟩
end
/-! ### o.m(a, ..), m a staticmethod of the object's class; o.m(k = v) -/
structure SMeth (K : PySem.W.Frag) (C : Addr) (m : Str) (p g : Addr) : Prop where
  at_ : PySem.W.findIn K (.ref C) m = some (some (.ref p))
  ty : PySem.W.typeIn K (.ref p) = some (.type "staticmethod")
  get : PySem.W.specialIn K (.ref p) "__get__" = some (some (.builtin "staticmethod.__get__"))
  tk : PySem.W.takesIn K (.ref p) = some false
  cp : PySem.W.copiedNames.contains m = false
  rc : ∃ rest, PySem.W.recIn K p "staticmethod" = some (.ref g :: rest)
  kp : PySem.W.keepIn K (.ref g) = true
def tStat (C : Addr) (m : Str) (sp : Sp) (ta : TE) (t : TA) : TE := fun σ H Q => ta σ H fun x H1 => ∃ a dx fs, x = .ref a ∧ H1 a = some (.ins C dx fs) ∧ fs.lookup m = none ∧ t σ H1 fun ws H2 => sp ws H2 Q E0
def tMethK (C : Addr) (m : Str) (sp : Sp) (gV : List V → List V → List V) (ta : TE) (tk : TA) : TE := fun σ H Q => ta σ H fun x H1 => ∃ a dx fs, x = .ref a ∧ H1 a = some (.ins C dx fs) ∧ fs.lookup m = none ∧ tk σ H1 fun zs H2 => sp (gV [.ref a] zs) H2 Q E0
section
variable {X : Cx} {k : Nat} {C p g f : Addr} {sp : Sp} {o e : Expr} {es : List Expr} {kws : List Keyword} {m : Str} {pos apos : Pos} {ta : TE} {t tk : TA} {fd : FuncData} {ps ks : List Str}
theorem pe_stat {pl : Sem Bool} (he : PE X o ta) (c : Cls X.K C) (k1 : SMeth X.K C m p g) (F : FnOk X.prog X.w X.K X.mg X.base CX0 k g fd ps sp) (hr : Room k X.A) (hb : Binds X.K fd ps []) (ha : PA X (e :: es) t)
    (hst : starEach (e :: es) X.env = (false, eval e X.env) :: starEach es X.env := by rfl) (hpl : (backTo pos (starEach es X.env)).any (·.1) = false := by rfl)
    (ht : eval (.Call (.Attribute o m apos) (e :: es) [] pos) X.env = (eval o X.env >>= fun ov => standAt apos.atName >>= fun _ => holding [ov] (getMethod ov m pl) >>= fun q => callWith pos q.1 q.2 (backTo pos (starEach (e :: es) X.env)) (backToKw pos (keywordEach [] X.env))) := by rfl) :
    PE X (.Call (.Attribute o m apos) (e :: es) [] pos) (tStat C m sp ta t) := by
  refine ⟨fun pins s σ H Q I h => ?_⟩
  refine PySem.W.methodCall_KW (pl := pl) (thn (he.run pins s σ H _ I h) fun u s1 ⟨x, H1, I1, rx, a, dx, fs, ex, ea, l, q⟩ => ?_) ht
  subst ex
  obtain rfl : u = Value.ref a := rx
  obtain ⟨mA, O, rr, _, _, _⟩ := ins_get I1.hok ea
  have hn : mA m = none := RelO.none_of (by rw [← l]; exact rr m)
  obtain ⟨od, J, hl⟩ := O.look
  obtain ⟨rest, hrec⟩ := k1.rc
  have hc : PySem.W.isClsIn X.K C = true := by
    obtain ⟨cd, hc, _⟩ := PySem.W.any_some c.hd
    show (PySem.W.clsIn X.K C).isSome = true
    rw [hc]
    rfl
  have pg := PySem.W.plainGet_of (c.get m)
  refine PySem.W.method_usual (r := some (.ref p)) I1.kIn J pg.1 pg.2 k1.at_ ?_ ?_
  · show ((PySem.W.typeIn X.K (.ref p)).any fun t => t != .type "function" && t != .type "method_descriptor" && t != .type "wrapper_descriptor") = true
    rw [k1.ty]
    first | rfl | decide +kernel
  refine PySem.W.get_bind I1.kIn J pg.1 (ClX.find_cm hc k1.at_ k1.get k1.tk k1.cp (by rw [hl m, hn])) pg.2 (wpAny_call (PySem.W.sm_get (s := { s1 with toks := s1.toks + 1 }) I1.kIn hrec (PySem.W.handed_on (by rfl) ?_)))
  have I2 := I1.tok (s1.toks + 1)
  refine PySem.W.callWith_K (first := []) (h₀ := X.base) I2.ok.mod.kin k1.kp (thn (ha.run pos pins _ σ H1 _ I2 q) fun us s2 ⟨vs, H2, I3, r, q2⟩ => ⟨I3.kIn, ?_⟩) hst hpl
  exact run_fn F hr hb .nil pass0 I3 r (by rw [List.append_nil]; exact q2)
theorem pe_methK {pl : Sem Bool} {h : List Value → List Value → List Value} {hV : List V → List V → List V} (he : PE X o ta) (c : Cls X.K C) (hm : Meth X.K C m f) (F : FnOk X.prog X.w X.K X.mg X.base CX0 k f fd ps sp) (hr : Room k X.A) (hb : KBinds X.K fd ps ks h hV) (hkw : PK X kws tk)
    (hall : (backToKw pos (keywordEach kws X.env)).all (·.1.isSome) = true := by rfl) (hks : (backToKw pos (keywordEach kws X.env)).filterMap (·.1) = ks := by rfl) (hpl : ((backTo pos (starEach [] X.env)).any (·.1) || (backToKw pos (keywordEach kws X.env)).any (·.1.isNone)) = false := by rfl)
    (ht : eval (.Call (.Attribute o m apos) [] kws pos) X.env = (eval o X.env >>= fun ov => standAt apos.atName >>= fun _ => holding [ov] (getMethod ov m pl) >>= fun q => callWith pos q.1 q.2 (backTo pos (starEach [] X.env)) (backToKw pos (keywordEach kws X.env))) := by rfl) :
    PE X (.Call (.Attribute o m apos) [] kws pos) (tMethK C m sp hV ta tk) := by
  refine ⟨fun pins s σ H Q I h => ?_⟩
  refine PySem.W.methodCall_KW (pl := pl) (thn (he.run pins s σ H _ I h) fun u s1 ⟨x, H1, I1, rx, a, dx, fs, ex, ea, l, q⟩ => ?_) ht
  subst ex
  obtain rfl : u = Value.ref a := rx
  refine getmeth_ok I1 ea c hm l (PySem.W.callWith_KW0 (first := [.ref a]) (h₀ := X.base) I1.ok.mod.kin hm.kp hall (thn (hkw.run pos pins s1 σ H1 _ I1 q) fun ws s2 ⟨zs, H2, I2, rz, q2⟩ => ⟨I2.kIn, ?_⟩) hpl)
  rw [hks]
  exact run_fnk (us := [.ref a]) (vs := [.ref a]) F hr hb pass0 I2 (.cons rfl .nil) rz q2
end
/-- one value by position, one by keyword -/
def two1 {α : Type} : List α → List α → List α
  | [a], [b] => [a, b]
  | _, _ => []
theorem kb2 {K : PySem.W.Frag} {fd : FuncData} {p1 p2 : Str} (h : ∀ (s : Shared) (a b : Value), K.In s.heap → BindsTo s fd ⟨[a], [(p2, b)]⟩ [(p1, a), (p2, b)]) : KBinds K fd [p1, p2] [p2] two1 two1 := by
  refine ⟨fun s us ws X len => ?_, fun r1 r2 => ?_⟩
  · match us, ws, len with
    | [a], [b], _ => exact h s a b X
  · cases r1 with
    | nil => exact .nil
    | cons q1 r1 =>
      cases r1 with
      | cons _ _ => exact .nil
      | nil =>
        cases r2 with
        | nil => exact .nil
        | cons q2 r2 =>
          cases r2 with
          | cons _ _ => exact .nil
          | nil => exact .cons q1 (.cons q2 .nil)
/-! ### a list by the keys of a dict -/
theorem upd_free {H : Hp} {a e : Addr} {o : HO} (h : upd H a o e = none) : e ≠ a ∧ H e = none := by
  have n : e ≠ a := fun q => by
    rw [q, upd_same] at h
    cases h
  rw [upd_ne n] at h
  exact ⟨n, h⟩
theorem keys_strs {kvs : List (Key × V)} {xs : List Str} (h : kvs.map (·.1) = xs.map Sum.inr) : (kvs.map fun kv => kV kv.1) = xs.map V.str := by
  have e : (kvs.map fun kv => kV kv.1) = (kvs.map (·.1)).map kV := by rw [List.map_map]; rfl
  rw [e, h, List.map_map]
  rfl
theorem lock_keys {σ : L2.St} {H : Hp} {Q : VK} {td te : TE} {i : Nat} {d : Addr} {kvs : List (Key × V)} {xs : List Str} {f : Str → Str} (hd : H d = some (.dK kvs)) (hk : kvs.map (·.1) = xs.map Sum.inr) (hl : xs.length ≤ 900)
    (htd : ∀ (H' : Hp) (Q' : VK), Q' (.ref d) H' → td σ H' Q') (hte : ∀ x ∈ xs, ∀ (H' : Hp) (Q' : VK), Q' (.str (f x)) H' → te ((wipe σ [i]).set i (some (.str x))) H' Q')
    (q : ∀ (D : Addr) (H' : Hp), H D = none → Same H H' → H' D = some (.lst (xs.map fun x => .str (f x))) → Q (.ref D) H') : tLockE (tLc (iKeys td) (gName i) tYes te [i]) σ H Q := by
  refine ⟨d, .dK kvs, hd, trivial, fun od => ?_⟩
  refine htd _ _ ⟨d, od, rfl, .inl ⟨kvs, upd_same, fun D nD => ?_⟩⟩
  have hlen : kvs.length = xs.length := by
    have := congrArg List.length hk
    rw [List.length_map, List.length_map] at this
    exact this
  obtain ⟨nDd, nDH⟩ := upd_free nD
  refine lc_it walk_keys (fun j H' => H' D = some (.lst ((xs.take j).map fun x => .str (f x))) ∧ H' d = some (.frz od (.dK kvs)) ∧ ∀ b o, b ≠ d → H b = some o → H' b = some o) ⟨by rw [upd_same]; rfl, by rw [upd_ne nDd.symm, upd_same], fun b o nb e => by rw [upd_ne (ne_of_none e nDH), upd_ne nb]; exact e⟩ (fun _ _ _ h => h.2.1) ?_ ?_
  · rintro j v H1 H2 hj ⟨hD, hd1, keep⟩ ⟨rfl, k, v', hkv, rfl⟩
    obtain ⟨x, hx, rfl⟩ := key_at hk hkv
    refine ⟨?_, yes_if ?_⟩
    · show ((wipe σ [i]).set i (some (kV (.inr x)))).set i none = σ.set i none
      show ((σ.set i none).set i (some (V.str x))).set i none = σ.set i none
      rw [List.set_set, List.set_set]
    refine hte x (List.mem_of_getElem? hx) _ _ ⟨_, hD, big_lt (by rw [List.length_map, List.length_take]; omega), ?_, ?_, ?_⟩
    · rw [upd_same, List.take_add_one, hx, List.map_append]
      rfl
    · rw [upd_ne nDd.symm]
      exact hd1
    · intro b o nb e
      rw [upd_ne (ne_of_none e nDH)]
      exact keep b o nb e
  · rintro H1 ⟨hD, hd1, keep⟩
    refine ⟨hd1, q D _ nDH (fun b o e => ?_) ?_⟩
    · by_cases hb : b = d
      · rw [hb, upd_same, ← hd, ← hb, e]
      · rw [upd_ne hb]
        exact keep b o hb e
    · rw [upd_ne nDd, hD, List.take_of_length_le (by omega)]
theorem paired_app {α β : Type} {R : α → β → Prop} : ∀ {l1 l2 : List α} {k1 k2 : List β}, Paired R l1 k1 → Paired R l2 k2 → Paired R (l1 ++ l2) (k1 ++ k2)
  | _, _, _, _, .nil, h => h
  | _, _, _, _, .cons a t, h => .cons a (paired_app t h)
/-! ### comprehensions whose elements write nothing but new tuples -/
theorem prd_snoc {α β : Type} {R : α → β → Prop} : ∀ {as : List α} {bs : List β} {a : α} {b : β}, Paired R as bs → R a b → Paired R (as ++ [a]) (bs ++ [b])
  | _, _, _, _, .nil, h => .cons h .nil
  | _, _, _, _, .cons h t, h' => .cons h (prd_snoc t h')
theorem prd_len {α β : Type} {R : α → β → Prop} : ∀ {as : List α} {bs : List β}, Paired R as bs → as.length = bs.length
  | _, _, .nil => rfl
  | _, _, .cons _ t => by rw [List.length_cons, List.length_cons, prd_len t]
theorem filt_snoc {α : Type} {zs : List α} {i : Nat} {x : α} (b : α → Bool) (h : zs[i]? = some x) : (zs.take (i + 1)).filter b = (zs.take i).filter b ++ (if b x = true then [x] else []) := by
  rw [List.take_add_one, h, List.filter_append]
  congr 1
  show [x].filter b = _
  cases e : b x with
  | true => rw [List.filter_cons_of_pos e, List.filter_nil, if_pos rfl]
  | false => rw [List.filter_cons_of_neg (by rw [e]; decide), List.filter_nil, if_neg (by decide)]
theorem take_few {α : Type} (zs : List α) (b : α → Bool) (i : Nat) : ((zs.take i).filter b).length ≤ zs.length := Nat.le_trans (List.length_filter_le _ _) (by rw [List.length_take]; exact Nat.min_le_right _ _)
section
variable {J : It} {n : Nat} {G : Hp → Prop} {Y : Nat → Hp → V → Hp → Prop} {g : TG} {tt : TT} {te tk tv : TE} {vs : List Nat} {σ : L2.St} {H1 : Hp} {D : Addr} {Qd : Hp → Prop} {α : Type}
theorem lc_tups (w : Walk J n G Y) (zs : List α) (val : α → V) (st : α → L2.St) (b : α → Bool) (f1 f2 : α → V) (hn : zs.length = n) (nD : H1 D = none) (few : n ≤ 60000) (hG : ∀ H', Same H1 H' → G H')
    (hY : ∀ i H v H', Y i H v H' → H' = H ∧ ∃ x, zs[i]? = some x ∧ v = val x) (hg : ∀ x ∈ zs, ∀ H' (Q' : L2.St → Hp → Prop), Same H1 H' → Q' (st x) H' → g (val x) (wipe σ vs) H' Q')
    (hw : ∀ x ∈ zs, wipe (st x) vs = wipe σ vs) (ht : ∀ x ∈ zs, ∀ H' (Q' : Bool → Hp → Prop), Same H1 H' → Q' (b x) H' → tt (st x) H' Q')
    (he : ∀ x ∈ zs, b x = true → ∀ H' (Q' : VK), Same H1 H' → (∀ T, H' T = none → Q' (.ref T) (upd H' T (.tup [f1 x, f2 x]))) → te (st x) H' Q')
    (q : ∀ H' ts, Same H1 H' → H' D = some (.lst (ts.map V.ref)) → Paired (fun t x => H' t = some (.tup [f1 x, f2 x]) ∧ H1 t = none ∧ t ≠ D) ts (zs.filter b) → Qd H') :
    ∃ W : Nat → Nat → Hp → Prop, (∃ m, W 0 m (upd H1 D (.lst []))) ∧ ∀ i m H, W i m H →
      (J.stop i H ∧ Qd H) ∨ (J.go i H ∧ ∃ Nx : Hp → Prop, (∀ H', Nx H' → ∃ m', m' < m ∧ W (i + 1) m' H') ∧ ∀ x H', J.yld i H x H' → g x (wipe σ vs) H' fun σ2 H2 => wipe σ2 vs = wipe σ vs ∧ tt σ2 H2 fun b H3 =>
        if b = true then te σ2 H3 fun y H4 => ∃ acc, H4 D = some (.lst acc) ∧ acc.length < sizeLine ∧ Nx (upd H4 D (.lst (acc ++ [y]))) else Nx H3) := by
  refine lc_it w (fun i H => ∃ ts, Same H1 H ∧ H D = some (.lst (ts.map V.ref)) ∧ Paired (fun t x => H t = some (.tup [f1 x, f2 x]) ∧ H1 t = none ∧ t ≠ D) ts ((zs.take i).filter b)) ⟨[], same_upd nD, upd_same, .nil⟩ (fun i H _ h => by obtain ⟨_, h, _⟩ := h; exact hG H h) ?_ ?_
  · rintro i v H H' hi ⟨ts, s1, hD, hp⟩ hy
    obtain ⟨rfl, x, hx, rfl⟩ := hY _ _ _ _ hy
    have hxm := List.mem_of_getElem? hx
    refine hg x hxm _ _ s1 ⟨hw x hxm, ht x hxm _ _ s1 ?_⟩
    have fs := filt_snoc b hx
    cases eb : b x with
    | false =>
      rw [eb, if_neg (by decide), List.append_nil] at fs
      rw [if_neg (by decide)]
      exact ⟨ts, s1, hD, by rw [fs]; exact hp⟩
    | true =>
      rw [eb, if_pos rfl] at fs
      rw [if_pos rfl]
      refine he x hxm eb _ _ s1 fun T nT => ?_
      have nTD : T ≠ D := (ne_of_none hD nT).symm
      have tl : ts.length ≤ zs.length := by rw [prd_len hp]; exact take_few zs b i
      refine ⟨_, by rw [upd_ne nTD.symm]; exact hD, by rw [List.length_map]; exact Nat.lt_of_le_of_lt (show _ ≤ 60000 by omega) (by decide), ts ++ [T], fun c o e => ?_, by rw [upd_same, List.map_append]; rfl, ?_⟩
      · rw [upd_ne (ne_of_none e nD), upd_ne (ne_of_none (s1 _ _ e) nT)]
        exact s1 _ _ e
      · rw [fs]
        refine prd_snoc (hp.mono fun t y h => ⟨?_, h.2⟩) ⟨by rw [upd_ne nTD, upd_same], s1.free nT, nTD⟩
        rw [upd_ne h.2.2, upd_ne (ne_of_none h.1 nT)]
        exact h.1
  · rintro H' ⟨ts, s1, hD, hp⟩
    rw [← hn, List.take_length] at hp
    exact q H' ts s1 hD hp
theorem lc_vals (w : Walk J n G Y) (zs : List α) (val : α → V) (st : α → L2.St) (b : α → Bool) (f : α → V) (hn : zs.length = n) (nD : H1 D = none) (few : n ≤ 60000) (hG : ∀ H', Same H1 H' → G H')
    (hY : ∀ i H v H', Y i H v H' → H' = H ∧ ∃ x, zs[i]? = some x ∧ v = val x) (hg : ∀ x ∈ zs, ∀ H' (Q' : L2.St → Hp → Prop), Same H1 H' → Q' (st x) H' → g (val x) (wipe σ vs) H' Q')
    (hw : ∀ x ∈ zs, wipe (st x) vs = wipe σ vs) (ht : ∀ x ∈ zs, ∀ H' (Q' : Bool → Hp → Prop), Same H1 H' → Q' (b x) H' → tt (st x) H' Q')
    (he : ∀ x ∈ zs, b x = true → ∀ H' (Q' : VK), Same H1 H' → Q' (f x) H' → te (st x) H' Q')
    (q : ∀ H', Same H1 H' → H' D = some (.lst ((zs.filter b).map f)) → Qd H') :
    ∃ W : Nat → Nat → Hp → Prop, (∃ m, W 0 m (upd H1 D (.lst []))) ∧ ∀ i m H, W i m H →
      (J.stop i H ∧ Qd H) ∨ (J.go i H ∧ ∃ Nx : Hp → Prop, (∀ H', Nx H' → ∃ m', m' < m ∧ W (i + 1) m' H') ∧ ∀ x H', J.yld i H x H' → g x (wipe σ vs) H' fun σ2 H2 => wipe σ2 vs = wipe σ vs ∧ tt σ2 H2 fun b H3 =>
        if b = true then te σ2 H3 fun y H4 => ∃ acc, H4 D = some (.lst acc) ∧ acc.length < sizeLine ∧ Nx (upd H4 D (.lst (acc ++ [y]))) else Nx H3) := by
  refine lc_it w (fun i H => Same H1 H ∧ H D = some (.lst (((zs.take i).filter b).map f))) ⟨same_upd nD, upd_same⟩ (fun i H _ h => hG H h.1) ?_ ?_
  · rintro i v H H' hi ⟨s1, hD⟩ hy
    obtain ⟨rfl, x, hx, rfl⟩ := hY _ _ _ _ hy
    have hxm := List.mem_of_getElem? hx
    refine hg x hxm _ _ s1 ⟨hw x hxm, ht x hxm _ _ s1 ?_⟩
    have fs := filt_snoc b hx
    cases eb : b x with
    | false =>
      rw [eb, if_neg (by decide), List.append_nil] at fs
      rw [if_neg (by decide)]
      exact ⟨s1, by rw [fs]; exact hD⟩
    | true =>
      rw [eb, if_pos rfl] at fs
      rw [if_pos rfl]
      refine he x hxm eb _ _ s1 ⟨_, hD, by rw [List.length_map]; have := take_few zs b i; exact Nat.lt_of_le_of_lt (show _ ≤ 60000 by omega) (by decide), fun c o e => ?_, by rw [upd_same, fs, List.map_append]; rfl⟩
      rw [upd_ne (ne_of_none e nD)]
      exact s1 _ _ e
  · rintro H' ⟨s1, hD⟩
    rw [← hn, List.take_length] at hD
    exact q H' s1 hD
theorem dc_vals (w : Walk J n G Y) (zs : List Str) (val : Str → V) (st : Str → L2.St) (b : Str → Bool) (f : Str → V) (hn : zs.length = n) (nd : zs.Nodup) (nD : H1 D = none) (few : n ≤ 60000) (hG : ∀ H', Same H1 H' → G H')
    (hY : ∀ i H v H', Y i H v H' → H' = H ∧ ∃ x, zs[i]? = some x ∧ v = val x) (hg : ∀ x ∈ zs, ∀ H' (Q' : L2.St → Hp → Prop), Same H1 H' → Q' (st x) H' → g (val x) (wipe σ vs) H' Q')
    (hw : ∀ x ∈ zs, wipe (st x) vs = wipe σ vs) (ht : ∀ x ∈ zs, ∀ H' (Q' : Bool → Hp → Prop), Same H1 H' → Q' (b x) H' → tt (st x) H' Q')
    (hk : ∀ x ∈ zs, b x = true → ∀ H' (Q' : VK), Same H1 H' → Q' (.str x) H' → tk (st x) H' Q') (he : ∀ x ∈ zs, b x = true → ∀ H' (Q' : VK), Same H1 H' → Q' (f x) H' → tv (st x) H' Q')
    (q : ∀ H', Same H1 H' → H' D = some (.dK ((zs.filter b).map fun x => (.inr x, f x))) → Qd H') :
    ∃ W : Nat → Nat → Hp → Prop, (∃ m, W 0 m (upd H1 D (.dK []))) ∧ ∀ i m H, W i m H → (J.stop i H ∧ Qd H) ∨ (J.go i H ∧ ∃ Nx : Hp → Prop, (∀ H', Nx H' → ∃ m', m' < m ∧ W (i + 1) m' H') ∧
      ∀ x H', J.yld i H x H' → g x (wipe σ vs) H' fun σ2 H2 => wipe σ2 vs = wipe σ vs ∧ tt σ2 H2 fun b H3 =>
        if b = true then tk σ2 H3 fun y H4 => tv σ2 H4 fun z H5 => ∃ kvs k, y = kV k ∧ H5 D = some (.dK kvs) ∧ kvs.length < sizeLine ∧ Nx (upd H5 D (.dK (putK kvs k z))) else Nx H3) := by
  refine dc_it w (fun i H => Same H1 H ∧ H D = some (.dK (((zs.take i).filter b).map fun x => (.inr x, f x)))) ⟨same_upd nD, upd_same⟩ (fun i H _ h => hG H h.1) ?_ ?_
  · rintro i v H H' hi ⟨s1, hD⟩ hy
    obtain ⟨rfl, x, hx, rfl⟩ := hY _ _ _ _ hy
    have hxm := List.mem_of_getElem? hx
    refine hg x hxm _ _ s1 ⟨hw x hxm, ht x hxm _ _ s1 ?_⟩
    have fs := filt_snoc b hx
    cases eb : b x with
    | false =>
      rw [eb, if_neg (by decide), List.append_nil] at fs
      rw [if_neg (by decide)]
      exact ⟨s1, by rw [fs]; exact hD⟩
    | true =>
      rw [eb, if_pos rfl] at fs
      rw [if_pos rfl]
      refine hk x hxm eb _ _ s1 (he x hxm eb _ _ s1 ⟨_, .inr x, rfl, hD, by rw [List.length_map]; have := take_few zs b i; exact Nat.lt_of_le_of_lt (show _ ≤ 60000 by omega) (by decide), fun c o e => ?_, ?_⟩)
      · rw [upd_ne (ne_of_none e nD)]
        exact s1 _ _ e
      · rw [upd_same, fs, List.map_append, putK_end]
        · rfl
        · rw [List.map_map]
          intro hm
          obtain ⟨y, hy1, hy2⟩ := List.mem_map.mp hm
          have e : y = x := Sum.inr.inj hy2
          subst e
          have hy3 := (List.mem_filter.mp hy1).1
          obtain ⟨j, hj, ej⟩ := List.mem_take_iff_getElem.mp hy3
          have h1 : zs[j]? = some y := by rw [← ej]; exact List.getElem?_eq_getElem _
          have := (List.getElem?_inj (List.getElem?_eq_some_iff.mp h1).1 nd).mp (h1.trans hx.symm)
          omega
  · rintro H' ⟨s1, hD⟩
    rw [← hn, List.take_length] at hD
    exact q H' s1 hD
end
def rDictP (K : PySem.W.Frag) : List V → Hp → VK → Prop := fun xs H Q => ∃ (a : Addr) (ps : List Addr) (kvs : List (Key × V)), xs = [.ref a] ∧ SqL K H a (ps.map V.ref) ∧ Paired (fun p kv => SqT K H p [kV kv.1, kv.2]) ps kvs ∧ ∀ p, H p = none → Q (.ref p) (upd H p (.dK (mergeK [] kvs)))
theorem call_dictPn {X : Cx} (h : X.calm = true) : CallR X (.type "dict") (rDictP X.K) := call_dictP h
def top (i : Nat) : Stmt := PySem.Challenge.pw_keptroutes_k06_equal_maps.main.body.getD i (.Pass ⟨0, 0, 0, 0⟩)
abbrev sCls : Stmt := top 10
abbrev sTab : Stmt := top 14
abbrev sWsh : Stmt := top 16
abbrev sSize : Stmt := top 22
abbrev sPen : Stmt := top 18
abbrev sP : Stmt := sPen
abbrev sNext : Stmt := top 19
abbrev sN : Stmt := sNext
abbrev sDraw : Stmt := top 20
abbrev sDr : Stmt := sDraw
abbrev sBits : Stmt := top 21
abbrev sB : Stmt := sBits
abbrev sPrefixes : Stmt := top 23
abbrev sX : Stmt := sPrefixes
abbrev sHas : Stmt := top 8
abbrev sH : Stmt := sHas
abbrev sPfx : Stmt := top 9
abbrev sI : Stmt := sPfx
abbrev sWhole : Stmt := top 6
abbrev sWo : Stmt := sWhole
abbrev sWidth : Stmt := top 7
abbrev sV : Stmt := sWidth
/-! ### {**d, k: v} -/
section
variable {P : Program} {w : World} {K' : Type} [DecidableEq K'] {knd : KeyKind P w K'} {A : Around} {E : Value → Shared → Prop} {s : Shared}
theorem put_ok {d : Addr} {kvs : List (K' × Value)} {k : K'} {key v : Value} {Z : Unit → Shared → Prop} (ik : knd.is k key = true) (D : s.heap.DictOf knd d kvs) (few : kvs.length ≤ sizeLine)
    (hZ : ∀ h1, h1.DictOf knd d (stored kvs k v) → Heap.SameBut d s.heap h1 → Z () { s with heap := h1 }) : wpAny (model P w) A (dictPut d (knd.hash k) key v) Z E s := by
  obtain ⟨o, es, ep, at1, cl, da, ke, pr, nd⟩ := D
  have n1 : es.size ≤ sizeLine := by
    have q := pr.length
    rw [Array.length_toList] at q
    omega
  have fi : (es.findIdx? fun e => knd.is k e.key) = kvs.findIdx? fun x => decide (x.1 = k) := by
    rw [← pr.findIdx k]
    cases es
    simp
  unfold dictPut
  refine wpAny_bind (wpAny_dictFind_of ik at1 da ke ?_)
  cases q : es.findIdx? fun e => knd.is k e.key with
  | some j =>
    have st : stored kvs k v = _ := if_pos (any_of_findIdx_some (fi ▸ q))
    refine wpAny_updateDict at1 da (hZ _ ⟨_, _, ep, Heap.get?_update_self _ at1 (Obj.isFreed_of_dict (Obj.data_mapDict da _)), cl.mapDict _, Obj.data_mapDict da _, ke.modify _ _, ?_, ?_⟩ (Heap.SameBut.update ..))
    · rw [st]
      have ql : (es.toList.findIdx? fun e => knd.is k e.key) = some j := by
        rw [← q]
        cases es
        simp
      have z := pr.modify nd ql v
      cases es
      simpa using z
    · rw [st, keys_map_store]
      exact nd
  | none =>
    have no : k ∉ kvs.map (·.1) := not_mem_of_findIdx_none (fi ▸ q)
    have st : stored kvs k v = _ := if_neg (c := (kvs.any fun x => decide (x.1 = k)) = true) (by
      rintro z
      obtain ⟨x, hx, e⟩ := List.any_eq_true.mp z
      exact no (List.mem_map.mpr ⟨x, hx, of_decide_eq_true e⟩))
    refine wpAny_updateDictKeys (hz := n1) at1 da (hZ _ ⟨_, _, ep + 1, Heap.get?_update_self _ at1 (Obj.isFreed_of_dict (Obj.data_mapDictKeys da _)), cl.mapDictKeys _, Obj.data_mapDictKeys da _, ke.push ik _, ?_, ?_⟩ (Heap.SameBut.update ..))
    · rw [st]
      have z := pr.append ik (knd.hash k) v
      cases es
      simpa using z
    · rw [st, List.map_append, List.nodup_append]
      refine ⟨nd, by simp, fun a ha b hb => ?_⟩
      obtain rfl : b = k := by simpa using hb
      exact fun e => no (e ▸ ha)
theorem if_pre {α β γ : Type} {c : Prop} [Decidable c] {x : Sem α} {F : α → Sem β} {rest : Sem γ} {Z : γ → Shared → Prop} (hp : c → ∀ Q : β → Shared → Prop, (∀ b, Q b s) → wpAny (model P w) A (x >>= F) Q E s) (hr : wpAny (model P w) A rest Z E s) :
    wpAny (model P w) A (if c then x >>= fun a => F a >>= fun _ => rest else rest) Z E s := by
  split
  · rename_i hc
    have e : (x >>= fun a => F a >>= fun _ => rest) = (x >>= F) >>= fun _ => rest := by rw [bind_assoc]
    rw [e]
    exact wpAny_bind (hp hc _ fun _ => hr)
  · exact hr
theorem forIn_none {l : List DictEntry} {f : DictEntry → PUnit → Sem (ForInStep PUnit)} (hf : ∀ e ∈ l, ∀ u, f e u = pure (.yield u)) : forIn l PUnit.unit f = pure PUnit.unit := by
  induction l with
  | nil => rfl
  | cons e r ih => rw [List.forIn_cons, hf e List.mem_cons_self, pure_bind]; exact ih fun x hx => hf x (List.mem_cons_of_mem _ hx)
/-- a dict merged into another -/
theorem merge_ok {d o : Addr} {kvs more : List (K' × Value)} {Z : Unit → Shared → Prop} (ne : d ≠ o) (sy : (o == sysModules) = false) (D : s.heap.DictOf knd d kvs) (O : s.heap.DictOf knd o more) (few : kvs.length + more.length ≤ sizeLine)
    (nr : ∀ k v, knd.is k v = true → ∀ a, v ≠ .ref a)
    (hZ : ∀ h1, h1.DictOf knd d (merged kvs more) → Heap.SameBut d s.heap h1 → Z () { s with heap := h1 }) : wpAny (model P w) A (mergeMapping d (.ref o) false) Z E s := by
  obtain ⟨oo, es, ep, at1, cl, da, ke, pr, nd⟩ := id O
  obtain ⟨od, es2, ep2, at2, cl2, da2, ke2, pr2, nd2⟩ := id D
  have hlen : more.length = es.size := by
    rw [← pr.length, Array.length_toList]
  unfold mergeMapping
  refine wpAny_bind (wpAny_isInstance O.typeIs isSubtype_dict_dict ?_)
  rw [if_pos rfl]
  refine wpAny_bind (wpAny_specialOf O.typeIs PySem.F.slot_dict_iter.lookup ?_)
  refine wpAny_bind (wpAny_pure ?_)
  simp only [beq_self_eq_true]
  rw [if_neg (by rw [sy]; exact Bool.false_ne_true)]
  refine wpAny_bind (wpAny_dictEntries at2 da2 ?_)
  refine if_pre (fun _ Q q => ?_) ?_
  · refine wpAny_bind (wpAny_dictEntries at1 da ?_)
    rw [← Array.forIn_toList, forIn_none fun e he u => ?_]
    · exact wpAny_pure (q _)
    · obtain ⟨k', ik, _⟩ := ke e (by simpa using he)
      split
      · rename_i a ha
        exact absurd ha (nr _ _ ik a)
      · rfl
  refine wpAny_bind (wpAny_dictEntries at1 da (wpAny_bind (wpAny_dictEpoch at1 da (wpAny_bind ?_))))
  refine wpAny_forIn_list _ (fun rest _ r => ∃ h1 i, r = { s with heap := h1 } ∧ rest = List.range' i (es.size - i) ∧ i ≤ es.size ∧ h1.DictOf knd d (merged kvs (more.take i)) ∧ h1.get? o = some oo ∧ Heap.SameBut d s.heap h1) _ ?_ ?_ _ _ ⟨s.heap, 0, rfl, by rw [List.range_eq_range', Nat.sub_zero], Nat.zero_le _, by simpa [merged] using D, at1, Heap.SameBut.refl _ _⟩
  · rintro x rest u r ⟨h1, i, rfl, er, hi, D1, a1, sb⟩
    have lt : i < es.size := by
      rcases Nat.lt_or_ge i es.size with q | q
      · exact q
      · rw [Nat.sub_eq_zero_of_le q] at er
        cases er
    obtain ⟨rfl, er2⟩ : x = i ∧ rest = List.range' (i + 1) (es.size - (i + 1)) := by
      rw [show es.size - i = (es.size - (i + 1)) + 1 by omega, List.range'_succ] at er
      exact List.cons.inj er
    refine wpAny_bind (wpAny_dictEntries a1 da ?_)
    rw [Array.getElem?_eq_getElem lt]
    have lt2 : x < more.length := by rw [hlen]; exact lt
    obtain ⟨⟨k0, v0⟩, hkv⟩ : ∃ y, more[x]? = some y := ⟨_, List.getElem?_eq_getElem lt2⟩
    obtain ⟨ik, iv⟩ := pr.get? (e := es[x]) (by simp [lt]) hkv
    obtain ⟨k', ik2, hh⟩ := ke es[x] (Array.getElem_mem lt)
    obtain rfl : k' = k0 := knd.inj _ _ _ ik2 ik
    show wpAny _ _ (holding [es[x].key, es[x].val] (if false = true then _ else dictPut d es[x].hash es[x].key es[x].val) >>= _) _ _ _
    rw [if_neg Bool.false_ne_true, hh, iv]
    have few2 : (merged kvs (more.take x)).length ≤ sizeLine := by
      have e1 := merged_length_le kvs (more.take x)
      rw [List.length_take] at e1
      omega
    refine wpAny_bind (wpAny_holding (put_ok ik D1 few2 fun h2 D2 sb2 => ?_))
    have a2 : h2.get? o = some oo := (sb2.2 o (Ne.symm ne)).trans a1
    refine wpAny_bind (wpAny_dictEpoch a2 da ?_)
    rw [if_neg (by simp)]
    exact wpAny_pure ⟨h2, x + 1, rfl, er2, lt, by rw [merged_take_succ kvs more x (k', v0) hkv]; exact D2, a2, sb.trans sb2⟩
  · rintro u r ⟨h1, i, rfl, er, hi, D1, a1, sb⟩
    obtain rfl : i = es.size := by
      rcases Nat.lt_or_ge i es.size with q | q
      · rw [show es.size - i = (es.size - (i + 1)) + 1 by omega, List.range'_succ] at er
        cases er
      · omega
    rw [← hlen, List.take_length] at D1
    exact wpAny_pure (hZ h1 D1 sb)
end
section
variable {X : Cx} {o ke ve : Expr} {pos : Pos} {td tk tv : TE}
theorem key_noref {P : Program} {w : World} {k : Key} {v : Value} (h : (mixKind P w).is k v = true) (a : Addr) : v ≠ .ref a := by
  rcases keyIs_shape h with ⟨i, t, rfl, rfl⟩ | ⟨x, t, rfl, rfl⟩
  · exact fun e => nomatch e
  · exact fun e => nomatch e
/-- a dict of the heap merged into another -/
theorem mergeH {pins : List (Addr × Obj)} {σ : L2.St} {H : Hp} {s : Shared} {A : Around} {E : Value → Shared → Prop} {p a : Addr} {kvs more : List (Key × V)} {Z : Unit → Shared → Prop} (I : Inv X pins σ H s) (hp : H p = some (.dK kvs)) (ha : Rd H a (.dK more)) (ne : p ≠ a) (few : kvs.length + more.length ≤ 2000)
    (hZ : ∀ s', Inv X pins σ (upd H p (.dK (mergeK kvs more))) s' → Z () s') : wpAny (model X.prog X.w) A (mergeMapping p (.ref a) false) Z E s := by
  obtain ⟨z1, sy1, vs, rel, D⟩ := dk_of I.hok hp
  obtain ⟨z2, sy2, rs, rel2, O⟩ := dk_rd I.hok ha
  refine merge_ok ne sy2 D O (by rw [← rel.length, ← rel2.length]; exact Nat.le_trans few (by decide)) (fun k v h a => key_noref h a) fun h1 D1 sb => hZ _ ?_
  have he : ∃ q, h1.get? p = some q := let ⟨q, _, _, hq, _⟩ := D1; ⟨q, hq⟩
  have len := length_mergeK more kvs
  exact d_write (t' := s.toks) I (by rw [hp]; exact True.intro) sb he (dk_new (Nat.le_trans (show (mergeK kvs more).length ≤ 2000 by omega) (by decide)) sy1 (KV.merge rel2 rel) D1)
def tDSt (td tk tv : TE) : TE := fun σ H Q => ∀ p, H p = none → td σ (upd H p (.dK [])) fun x H1 => ∃ (a : Addr) (kvs : List (Key × V)), x = .ref a ∧ Rd H1 a (.dK kvs) ∧ a ≠ p ∧ H1 p = some (.dK []) ∧ (kvs.map (·.1)).Nodup ∧ kvs.length < 1000 ∧ ∀ q, (upd H1 p (.dK kvs)) q = none →
  tk σ (upd (upd H1 p (.dK kvs)) q (.dK [])) fun y H2 => tv σ H2 fun z H3 => ∃ k, y = kV k ∧ H3 p = some (.dK kvs) ∧ H3 q = some (.dK []) ∧ Q (.ref p) (upd (upd H3 q (.dK [(k, z)])) p (.dK (putK kvs k z)))
theorem pe_dst (ho : PE X o td) (hk : PE X ke tk) (hv : PE X ve tv) : PE X (.Dict [none, some ke] [o, ve] pos) (tDSt td tk tv) := by
  refine ⟨fun pins s σ H Q I h => ?_⟩
  rw [arm_eval_Dict]
  refine wpAny_bind (wpAny_standAt ?_)
  show wpAny _ _ (dictDisplay [(none, (eval o X.env >>= fun x => standAt pos >>= fun _ => pure x)), (some (eval ke X.env), (eval ve X.env >>= fun x => standAt pos >>= fun _ => pure x))]) _ _ _
  unfold dictDisplay
  simp only [List.forIn_cons, List.forIn_nil, List.isEmpty_nil, if_true, pure_bind, bind_assoc, List.nil_append, List.length_cons, List.length_nil, Nat.zero_add, Nat.reduceBEq, Bool.false_eq_true, if_false, List.isEmpty_cons]
  refine wpAny_bind (wpAny_alloc ?_)
  have hn : H s.heap.objs.size = none := I.hok.fresh (Nat.le_refl _)
  have I1 := I.laid (a := s.heap.objs.size) (o := .dK []) (h' := s.heap.push { cls := .type "dict", data := .dict #[] }) (t' := s.toks) (fun _ _ q => Heap.get?_push_of_some _ q) (Nat.le_refl _) (dk_empty s.heap I.big)
  refine wpAny_bind (wpAny_holding (wpAny_bind (thn (ho.run pins _ σ _ _ I1 (h _ hn)) fun u s2 ⟨x, H1, I2, rx, a, kvs, ex, ha, nap, hp, nd, few, q⟩ => wpAny_bind (wpAny_standAt (wpAny_pure ?_)))))
  subst ex
  obtain rfl : u = Value.ref a := rx
  refine wpAny_bind (wpAny_onRaise (wpAny_tryCatch (wpAny_onRaise (wpAny_holding (mergeH I2 hp ha nap.symm (by show 0 + kvs.length ≤ 2000; omega) fun s3 I3 => ?_)))))
  rw [mergeK_nd kvs [] (by rw [List.nil_append]; exact nd), List.nil_append] at I3
  have nq : (upd H1 s.heap.objs.size (.dK kvs)) s3.heap.objs.size = none := I3.hok.fresh (Nat.le_refl _)
  have npq : s.heap.objs.size ≠ s3.heap.objs.size := ne_of_none upd_same nq
  have I4 := I3.laid (a := s3.heap.objs.size) (o := .dK []) (h' := s3.heap.push { cls := .type "dict", data := .dict #[] }) (t' := s3.toks) (fun _ _ q => Heap.get?_push_of_some _ q) (Nat.le_refl _) (dk_empty s3.heap I3.big)
  refine wpAny_bind (wpAny_holding (wpAny_subDict (knd := mixKind X.prog X.w) (show 1 ≤ 15 by decide) (evalPairs_cons (thn (hk.run pins _ σ _ _ I4 (q _ nq)) fun ku s4 ⟨y, H2, I5, ry, q2⟩ => wpAny_bind (thn (hv.run pins _ σ H2 _ I5 q2) fun vu s5 ⟨z, H3, I6, rz, k, ey, hp3, hq3, q3⟩ => wpAny_bind (wpAny_standAt (wpAny_pure (evalPairs_nil ?_))))))))
  subst ey
  obtain ⟨zq, syq, vs, rel, D⟩ := dk_of I6.hok hq3
  obtain rfl : vs = [] := List.length_eq_zero_iff.mp (by rw [← rel.length]; rfl)
  refine ⟨[(k, vu)], ⟨kV_is ry, rfl, trivial⟩, D, fun h6 D6 sb6 => ?_⟩
  have he : ∃ q, h6.get? s3.heap.objs.size = some q := let ⟨q, _, _, hq, _⟩ := D6; ⟨q, hq⟩
  have I7 := d_write (t' := s5.toks + [(ku, vu)].length) (ob := .dK [(k, z)]) I6 (by rw [hq3]; exact True.intro) sb6 he (dk_new (by show 1 ≤ sizeLine; decide) syq (show KV (putK [] k z) (stored [] k vu) from rel.put k rz) D6)
  exact wpAny_bind (wpAny_onRaise (wpAny_holding (mergeH I7 (by rw [upd_ne npq]; exact hp3) (.inl upd_same) npq (by show kvs.length + 1 ≤ 2000; omega) fun s8 I8 => wpAny_pure ⟨.ref s.heap.objs.size, _, I8, rfl, q3⟩)))
end
/-! ### cls(a, ..): a class that a name of the def holds -/
def tMakeL (i : Nat) (C : Addr) (sp : Sp) (t : TA) : TE := fun σ H Q => σ[i]? = some (some (.ref C)) ∧ tMake C sp [] E0 t σ H Q
section
variable {X : Cx} {k i : Nat} {f C : Addr} {fd : FuncData} {ps : List Str} {sp : Sp} {x : Str} {p pos : Pos} {e : Expr} {es : List Expr} {t : TA}
theorem pe_makeL (M : Mk X.K C f) (F : FnOk X.prog X.w X.K X.mg X.base CX0 k f fd ps sp) (hr : Room (k + 1) X.A) (hN : X.N[i]? = some x) (hv : Vis X.env.scope x) (hb : Binds X.K fd ps []) (ha : PA X (e :: es) t)
    (hdb : (x == ("__debug__" : Str)) = false := by decide) (hcd : (x == ("__classdict__" : Str)) = false := by decide) (he : starEach (e :: es) X.env = (false, eval e X.env) :: starEach es X.env := by rfl) (hpl : (backTo pos (starEach es X.env)).any (·.1) = false := by rfl) :
    PE X (.Call (.Name x p) (e :: es) [] pos) (tMakeL i C sp t) := by
  refine ⟨fun pins s σ H Q I h => ?_⟩
  obtain ⟨hs, ht⟩ := h
  refine wpAny_Call_Name_kw (thn ((pe_var (pos := p) hN hv hdb hcd).run pins s σ H (fun v H1 => v = .ref C ∧ H1 = H) I ⟨.ref C, hs, rfl, rfl⟩) fun u s1 ⟨v, H1, I1, r1, q1⟩ => ?_)
  obtain ⟨rfl, rfl⟩ := q1
  cases r1
  exact PySem.W.callWith_K (h₀ := X.base) I1.ok.mod.kin M.kp (thn (ha.run pos pins s1 σ _ _ I1 ht) fun us s2 ⟨vs, H2, I2, r, q⟩ => ⟨I2.kIn, run_make M F hr hb .nil pass0 I2 r q⟩) he hpl
end
section
variable {P : Program} {w : World} {K : PySem.W.Frag} {mg : Str → Option Value} {base : Heap}
theorem scPen : FnScope ["script"] ["script"] (defScope sPen) := ⟨rfl, rfl, rfl, by decide +kernel, rfl, by decide +kernel, by decide +kernel⟩
theorem ok_pen {f : Addr} {fd : FuncData} {k : Nat} (F : Fun K "_law_pen" "_law_pen" sPen f fd) (ml : mg "list" = none) : FnOk P w K mg base CX0 (k + 1) f fd ["script"] (spPen K) := by
  refine F.ok scPen (fun vs H Q E h => ?_) (fun cdv A outer s H vs Q E hr h => ?_)
  · obtain ⟨a, ns, rfl, _⟩ := h
    rfl
  · obtain ⟨a, ns, rfl, hS, hlen, q⟩ := h
    refine ⟨_, pss_one (ps_ret (pe_lst (pa_cons (pe_callTy call_list_of (by rfl) ml (by decide +kernel) (pa_cons (pe_slice sl_list (pv 0) po_none (po_some pe_int)) pa_nil)) (pa_cons pe_int (pa_cons pe_int pa_nil))))), ?_⟩
    obtain ⟨ms, em, hm⟩ := cut60 ns
    refine ⟨.ref a, rfl, 60, rfl, a, ns.map V.int, rfl, hS, fun b nb => ?_⟩
    rw [em]
    refine ⟨b, _, rfl, .inl (.inl (.inl upd_same)), fun c nc => ?_⟩
    refine ⟨by show 3 ≤ sizeLine; decide, fun p np => ?_⟩
    have s1 : Same H (upd H b (.lst (ms.map V.int))) := same_upd nb
    have s2 := same_upd (o := .lst (ms.map V.int)) nc
    have s3 := same_upd (o := penL c 0 0 []) np
    have nf : H p = none := (s1.trans s2).free np
    refine q _ p c (s1.trans (s2.trans s3)) nf (s1.free nc) ⟨ms, 0, 0, upd_same, ?_, hm, Int.le_refl _, Int.le_refl _, Int.le_refl _⟩
    exact s3 _ _ upd_same
theorem scNext : FnScope ["pen", "index", "cell", "low", "mid", "top"] ["pen"] (defScope sNext) := ⟨rfl, rfl, rfl, by decide +kernel, rfl, by decide +kernel, by decide +kernel⟩
theorem ok_next {f : Addr} {fd : FuncData} {k : Nat} (F : Fun K "_law_next" "_law_next" sNext f fd) (ml : mg "len" = none) : FnOk P w K mg base CX0 (k + 1) f fd ["pen"] spNext := by
  refine F.ok scNext (fun vs H Q E h => ?_) (fun cdv A outer s H vs Q E hr h => ?_)
  · obtain ⟨p, n, m, c, ns, i, z, rfl, _⟩ := h
    rfl
  · obtain ⟨p, n, m, c, ns, i, z, rfl, hp, hn, q⟩ := h
    have nd := scNext.nd
    have hu := hr.units
    refine ⟨_, pss_cons (ps_set (i := 1) nd rfl (.inl rfl) (pe_ix ix_list (pv 0) pe_int (fun _ _ => rfl)))
      (pss_cons (ps_asg (pe_op op_add (pv 1) pe_int) (pg_sub (pv 0) pe_int set_list))
      (pss_cons (ps_set (i := 2) nd rfl (.inl rfl) (pe_op op_add (pe_op op_mul (pv 1) pe_int) pe_int))
      (C8.pss_cut (ps_if (pt_cmpR (op_neD hu) (pe_ix ix_list (pv 0) pe_int (fun _ _ => rfl)) (pe_lst pa_nil) (nomark _))
        (pss_one (ps_set (i := 2) nd rfl (.inl rfl) (pe_ix ix_list (pe_ix ix_list (pv 0) pe_int (fun _ _ => rfl))
          (pe_op op_mod (pv 1) (pe_callB call_len_seq (by rfl) ml PySem.boot_len (pa_cons (pe_ix ix_list (pv 0) pe_int (fun _ _ => rfl)) pa_nil))) (fun _ _ => rfl)))) pss_nil)
      (C8.pss_cut (ps_if (PW.pt (pw_and (pt_cmpR op_lt (pv 1) (pe_callB call_len_seq (by rfl) ml PySem.boot_len (pa_cons (pe_ix ix_list (pv 0) pe_int (fun _ _ => rfl)) pa_nil)) (nomark _))
          (pw_and1 (pt_cmpR op_ge (pv 2) (pe_op op_pow pe_int pe_int) (nomark _)))))
        (pss_one (ps_ret (pv 2))) pss_nil)
      (C8.pss_cut (ps_set (i := 3) nd rfl (.inl rfl) (pe_op op_mod (pe_op op_add (pe_op op_add (pe_op op_mod (pv 2) pe_int) (pe_op op_mul (pv 1) pe_int)) pe_int) pe_int))
      (C8.pss_cut (ps_set (i := 4) nd rfl (.inl rfl) (pe_op op_mod (pe_op op_add (pe_op op_add (pe_op op_mul (pv 3) (pv 3)) (pe_op op_mul (pv 1) pe_int)) pe_int) pe_int))
      (C8.pss_cut (ps_set (i := 5) nd rfl (.inl rfl) (pe_op op_mod (pe_op op_add (pe_op op_add (pe_op op_mul (pv 4) (pv 4)) (pv 3)) (pe_op op_mul (pe_op op_mul (pv 1) (pv 1)) pe_int)) pe_int))
      (pss_one (ps_ret (pe_op op_add (pe_op op_mul (pe_op op_add (pe_op op_mul (pv 5) pe_int) (pv 4)) pe_int) (pv 3)))))))))))  , ?_⟩
    have hpL : H p = some (.lst (.ref c :: .int i :: .int z :: m)) := hp.at_
    have ncp : c ≠ p := hp.ne
    -- index = pen[1]; pen[1] = index + 1
    refine ⟨.ref p, rfl, p, _, 1, .int i, rfl, rfl, SqL.of hpL, atI_nat (j := 1) rfl, ?_⟩
    refine ⟨.int i, rfl, i, 1, rfl, rfl, .ref p, rfl, p, _, 1, 1, rfl, rfl, hpL, ix1, ?_⟩
    have e1 : (V.ref c :: .int i :: .int z :: m).set 1 (.int (i + 1)) = .ref c :: .int (i + 1) :: .int z :: m := rfl
    rw [e1]
    generalize hH : upd H p (.lst (.ref c :: .int (i + 1) :: .int z :: m)) = H1
    have h1 : H1 p = some (.lst (.ref c :: .int (i + 1) :: .int z :: m)) := by rw [← hH, upd_same]
    have hc1 : H1 c = some (.lst (ns.map V.int)) := by rw [← hH, upd_ne ncp]; exact hp.cells
    have b1 : But p H H1 := by rw [← hH]; exact But.upd
    -- cell = index * 1049 + 29
    refine ⟨.int i, rfl, _, _, rfl, rfl, .inr ⟨by decide, by decide⟩, _, _, rfl, rfl, ?_⟩
    have hi0 := hp.i0
    have hi1 := hp.i1
    have hnB : n ≤ 1000000000000 := hn
    -- pen[0] != []
    refine ⟨fun σ H2 => ∃ cell : Int, σ = [some (.ref p), some (.int i), some (.int cell), none, none, none] ∧ H2 p = some (.lst (.ref c :: .int (i + 1) :: .int z :: m)) ∧ H2 c = some (.lst (ns.map V.int)) ∧ But p H H2, ?_, ?_⟩
    · refine ⟨.ref p, rfl, p, _, 0, .ref c, rfl, rfl, SqL.of h1, atI_nat (j := 0) rfl, Nat.zero_le _, fun e ne => ?_⟩
      have s2 : Same H1 (upd H1 e (.lst [])) := same_upd ne
      have hp2 : (upd H1 e (.lst [])) p = some (.lst (.ref c :: .int (i + 1) :: .int z :: m)) := s2 _ _ h1
      have hc2 : (upd H1 e (.lst [])) c = some (.lst (ns.map V.int)) := s2 _ _ hc1
      have b2 : But p H (upd H1 e (.lst [])) := b1.trans (.of_same s2)
      refine ⟨.list (ns.map PyData.int), .list [], .lst (SqL.of hc2) (dpAll_ints ns), .lst (SqL.of upd_same) .nil, PySem.W.ke_shaped_ints ns, rfl, _, rfl, ?_⟩
      rw [eqv_nil]
      by_cases hz : ns = []
      · rw [decide_eq_true hz]
        refine iteF ?_
        exact ⟨_, rfl, hp2, hc2, b2⟩
      · rw [decide_eq_false hz]
        refine iteT ?_
        have hl : 0 < ns.length := List.length_pos_iff.mpr hz
        have hlt : (i % (ns.length : Int)).toNat < ns.length := by
          have h1 := Int.emod_nonneg i (show (ns.length : Int) ≠ 0 by omega)
          have h2 := Int.emod_lt_of_pos i (show (0 : Int) < ns.length by omega)
          omega
        have hnn := Int.emod_nonneg i (show (ns.length : Int) ≠ 0 by omega)
        have g : atI (ns.map V.int) (i % (((ns.map V.int).length : Nat) : Int)) = some (.int ns[(i % (ns.length : Int)).toNat]) := by
          rw [List.length_map]
          refine at_of (j := (i % (ns.length : Int)).toNat) (by omega) ?_
          rw [List.getElem?_map, List.getElem?_eq_getElem hlt]
          rfl
        refine ⟨.ref p, rfl, p, _, 0, .ref c, rfl, rfl, SqL.of hp2, atI_nat (j := 0) rfl, .int i, rfl, .ref p, rfl, p, _, 0, .ref c, rfl, rfl, SqL.of hp2, atI_nat (j := 0) rfl,
          c, _, rfl, .inl (SqL.of hc2), _, _, rfl, rfl, by rw [List.length_map]; omega, c, _, _, _, rfl, rfl, SqL.of hc2, g, ?_⟩
        exact ⟨_, rfl, hp2, hc2, b2⟩
    · rintro σ H2 ⟨cell, rfl, hp2, hc2, b2⟩
      have fin : ∀ x : Int, 0 ≤ x → Q (.int x) H2 := fun x hx => q x H2 hx b2 (hp.but b2 hp2 (by omega) (by omega) hp.s0)
      have m1 := Int.emod_nonneg (cell % 2147483587 + i * 70061 + 53) (show (2147483587 : Int) ≠ 0 by decide)
      have m2 := Int.emod_lt_of_pos (cell % 2147483587 + i * 70061 + 53) (show (0 : Int) < 2147483587 by decide)
      have M0 : (2147483587 : Int) ≠ 0 := by decide
      have M1 : (0 : Int) < 2147483587 := by decide
      have M2 : (0 : Int) < 2147483563 := by decide
      have M3 : (0 : Int) < 2147483549 := by decide
      refine ⟨fun σ' H' => σ' = [some (.ref p), some (.int i), some (.int cell), none, none, none] ∧ H' = H2, ?_, ?_⟩
      · refine ⟨.int i, rfl, .ref p, rfl, p, _, 0, .ref c, rfl, rfl, SqL.of hp2, atI_nat (j := 0) rfl, c, _, rfl, .inl (SqL.of hc2), _, _, rfl, rfl, _, rfl, ?_⟩
        refine ite2 (fun _ => ?_) (fun _ => iteF ⟨rfl, rfl⟩)
        refine ⟨.int cell, rfl, _, _, rfl, rfl, ⟨by decide, by decide, by decide⟩, _, _, rfl, rfl, _, rfl, ?_⟩
        refine ite2 (fun hc => ?_) (fun _ => ⟨rfl, rfl⟩)
        have hc' : (10 : Int) ^ 18 ≤ cell := of_decide_eq_true hc
        exact ⟨.int cell, rfl, fin cell (by omega)⟩
      · rintro σ' H' ⟨rfl, rfl⟩
        refine ⟨fun σ' Ha => Ha = H' ∧ ∃ low : Int, 0 ≤ low ∧ low < 2147483587 ∧ σ' = [some (.ref p), some (.int i), some (.int cell), some (.int low), none, none], ?_, ?_⟩
        · refine ⟨.int cell, rfl, _, _, rfl, rfl, M1, .int i, rfl, _, _, rfl, rfl, .inr ⟨by decide, by decide⟩, _, _, rfl, rfl, _, _, rfl, rfl, _, _, rfl, rfl, M1, ?_⟩
          exact ⟨rfl, _, Int.emod_nonneg _ M0, Int.emod_lt_of_pos _ M1, rfl⟩
        rintro σ' Hb ⟨rfl, low, l1, l2, rfl⟩
        refine ⟨fun σ' Ha => Ha = Hb ∧ ∃ mid : Int, 0 ≤ mid ∧ mid < 2147483563 ∧ σ' = [some (.ref p), some (.int i), some (.int cell), some (.int low), some (.int mid), none], ?_, ?_⟩
        · refine ⟨.int low, rfl, .int low, rfl, _, _, rfl, rfl, .inl ⟨by omega, by omega⟩, .int i, rfl, _, _, rfl, rfl, .inr ⟨by decide, by decide⟩, _, _, rfl, rfl, _, _, rfl, rfl, _, _, rfl, rfl, M2, ?_⟩
          exact ⟨rfl, _, Int.emod_nonneg _ (by decide), Int.emod_lt_of_pos _ M2, rfl⟩
        rintro σ' Hc ⟨rfl, mid, d1, d2, rfl⟩
        refine ⟨fun σ' Ha => Ha = Hc ∧ ∃ tp : Int, 0 ≤ tp ∧ σ' = [some (.ref p), some (.int i), some (.int cell), some (.int low), some (.int mid), some (.int tp)], ?_, ?_⟩
        · refine ⟨.int mid, rfl, .int mid, rfl, _, _, rfl, rfl, .inl ⟨by omega, by omega⟩, .int low, rfl, _, _, rfl, rfl, .int i, rfl, .int i, rfl, _, _, rfl, rfl, .inl ⟨by omega, by omega⟩, _, _, rfl, rfl, .inr ⟨by decide, by decide⟩, _, _, rfl, rfl, _, _, rfl, rfl, M3, ?_⟩
          exact ⟨rfl, _, Int.emod_nonneg _ (by decide), rfl⟩
        rintro σ' H3 ⟨rfl, tp, t1, rfl⟩
        refine ⟨.int tp, rfl, _, _, rfl, rfl, .inr ⟨by decide, by decide⟩, .int mid, rfl, _, _, rfl, rfl, _, _, rfl, rfl, .inr ⟨by decide, by decide⟩, .int low, rfl, _, _, rfl, rfl, ?_⟩
        exact fin _ (by show 0 ≤ (tp * 2147483587 + mid) * 2147483563 + low; omega)
theorem scDraw : FnScope ["pen", "below", "digit"] ["pen", "below"] (defScope sDraw) := ⟨rfl, rfl, rfl, by decide +kernel, rfl, by decide +kernel, by decide +kernel⟩
theorem ok_draw {f fN : Addr} {fd fdN : FuncData} {k : Nat} (F : Fun K "_law_draw" "_law_draw" sDraw f fd) (FN : Fun K "_law_next" "_law_next" sNext fN fdN) (bN : Binds K fdN ["pen"] []) (gN : mg "_law_next" = some (.ref fN)) (ml : mg "len" = none) :
    FnOk P w K mg base CX0 (k + 2) f fd ["pen", "below"] spDraw := by
  have GN : FnOk P w K mg base CX0 (k + 1) fN fdN ["pen"] spNext := ok_next FN ml
  refine F.ok scDraw (fun vs H Q E h => ?_) (fun cdv A outer s H vs Q E hr h => ?_)
  · obtain ⟨p, c, n, m, below, rfl, _⟩ := h
    rfl
  · obtain ⟨p, c, n, m, below, rfl, ⟨ns, i, z, hp⟩, hn, hb0, hb1, q⟩ := h
    have nd := scDraw.nd
    refine ⟨_, C8.pss_cut (ps_if (pt_cmpR op_lt (pe_ix ix_list (pv 0) pe_int (fun _ _ => rfl)) (pv 1) (nomark _))
        (pss_one (ps_asg (pe_call GN hr (by rfl) gN FN.kp bN .nil pass0 (pa_cons (pv 0) pa_nil)) (pg_sub (pv 0) pe_int set_list))) pss_nil)
      (pss_cons (ps_set (i := 2) nd rfl (.inl rfl) (pe_op op_mod (pe_ix ix_list (pv 0) pe_int (fun _ _ => rfl)) (pv 1)))
      (pss_cons (ps_asg (pe_op op_fdiv (pe_ix ix_list (pv 0) pe_int (fun _ _ => rfl)) (pv 1)) (pg_sub (pv 0) pe_int set_list))
      (pss_one (ps_ret (pv 2))))), ?_⟩
    refine ⟨fun σ H2 => σ = [some (.ref p), some (.int below), none] ∧ But p H H2 ∧ ∃ i z, PenAt H2 p (n + 1) m c ns i z, ?_, ?_⟩
    · refine ⟨.ref p, rfl, p, _, 2, .int z, rfl, rfl, SqL.of hp.at_, atI_nat (j := 2) rfl, .int below, rfl, _, _, rfl, rfl, _, rfl, ?_⟩
      refine ite2 (fun _ => ?_) (fun _ => ⟨rfl, .refl _ _, i, z, hp.mono (Nat.le_succ _)⟩)
      refine ⟨.ref p, rfl, p, n, m, c, ns, i, z, rfl, hp, hn, fun x H1 hx b1 hp1 => ?_⟩
      refine ⟨.ref p, rfl, p, _, 2, 2, rfl, rfl, hp1.at_, ix2, ?_⟩
      exact ⟨rfl, b1.trans .upd, i + 1, x, hp1.next hp1.i0 hp1.i1 hx⟩
    · rintro σ H2 ⟨rfl, b2, i', z', hp2⟩
      refine ⟨.ref p, rfl, p, _, 2, .int z', rfl, rfl, SqL.of hp2.at_, atI_nat (j := 2) rfl, .int below, rfl, _, _, rfl, rfl, hb0, ?_⟩
      refine ⟨.ref p, rfl, p, _, 2, .int z', rfl, rfl, SqL.of hp2.at_, atI_nat (j := 2) rfl, .int below, rfl, _, _, rfl, rfl, ⟨hb0, hb1⟩, .ref p, rfl, p, _, 2, 2, rfl, rfl, hp2.at_, ix2, ?_⟩
      refine ⟨_, rfl, q _ _ (Int.emod_nonneg _ (by omega)) (Int.emod_lt_of_pos _ hb0) (b2.trans .upd) ⟨ns, i', z' / below, hp2.next hp2.i0 hp2.i1 (Int.ediv_nonneg hp2.s0 (by omega))⟩⟩
end
/-! ### has_only, is_prefix -/
def spHas : Sp := fun vs H Q _ => ∃ x y : Str, vs = [.str x, .str y] ∧ x.length ≤ sizeLine ∧ Q (.bl (onlyOf y x)) H
def spPfx (K : PySem.W.Frag) : Sp := fun vs H Q _ => ∃ (v : V) (w : Int), vs = [v, .int w] ∧ TyS K H v ∧ (∀ x, v = .str x → x.length ≤ sizeLine) ∧ Q (.bl (isPfx v w)) H
section
variable {P : Program} {w : World} {K : PySem.W.Frag} {mg : Str → Option Value} {base : Heap}
theorem scHas : FnScope ["text", "signs"] ["text", "signs"] (defScope sHas) := ⟨rfl, rfl, rfl, by decide +kernel, rfl, by decide +kernel, by decide +kernel⟩
theorem ok_has {f : Addr} {fd : FuncData} {k : Nat} (F : Fun K "has_only" "has_only" sHas f fd) : FnOk P w K mg base CX0 (k + 1) f fd ["text", "signs"] spHas := by
  refine F.ok scHas (fun vs H Q E h => ?_) (fun cdv A outer s H vs Q E hr h => ?_)
  · obtain ⟨x, y, rfl, _⟩ := h
    rfl
  · obtain ⟨x, y, rfl, hl, q⟩ := h
    refine ⟨_, pss_one (ps_ret (pe_cmpR op_eq (pe_bm PySem.F.plainAttrs_str PySem.F.slot_str_lstrip PySem.F.type_str_lstrip mt_lstripChars (pv 0) (pa_cons (pv 1) pa_nil)) pe_str (nomark _))), ?_⟩
    refine ⟨.str x, rfl, rfl, .str y, rfl, x, y, rfl, rfl, hl, rfl, ?_⟩
    show Q (.bl (decide (V.str (Txt.lstripChars x y) = V.str ""))) H
    rw [lstrip_empty]
    exact q
theorem scPfx : FnScope ["thing", "width"] ["thing", "width"] (defScope sPfx) := ⟨rfl, rfl, rfl, by decide +kernel, rfl, by decide +kernel, by decide +kernel⟩
theorem ok_pfx {f fH : Addr} {fd fdH : FuncData} {k : Nat} (F : Fun K "is_prefix" "is_prefix" sPfx f fd) (FH : Fun K "has_only" "has_only" sHas fH fdH) (bH : Binds K fdH ["text", "signs"] []) (gH : mg "has_only" = some (.ref fH))
    (mi : mg "isinstance" = none) (ms : mg "str" = none) (ml : mg "len" = none) : FnOk P w K mg base CX0 (k + 2) f fd ["thing", "width"] (spPfx K) := by
  have GH : FnOk P w K mg base CX0 (k + 1) fH fdH ["text", "signs"] spHas := ok_has FH
  refine F.ok scPfx (fun vs H Q E h => ?_) (fun cdv A outer s H vs Q E hr h => ?_)
  · obtain ⟨v, w, rfl, _⟩ := h
    rfl
  · obtain ⟨v, w, rfl, ⟨t, ty, kt⟩, hl, q⟩ := h
    refine ⟨_, pss_one (ps_ret (pe_and (pe_callB call_isi (by rfl) mi (by decide +kernel) (pa_cons (pv 0) (pa_cons (pe_bltn (v := .ty "str") (by rfl) ms (by decide +kernel) rfl) pa_nil)))
      (pe_and (pe_cmpR op_le (pe_callB call_len_str (by rfl) ml PySem.boot_len (pa_cons (pv 0) pa_nil)) (pv 1) (nomark _))
        (pe_one (pe_call GH hr (by rfl) gH FH.kp bH .nil pass0 (pa_cons (pv 0) (pa_cons pe_str pa_nil))))))), ?_⟩
    refine ⟨v, rfl, v, .ty "str", .type t, .type "str", _, rfl, .ty _, ty, kt, _, rfl, ?_⟩
    cases v with
    | str x =>
      refine iteT ?_
      have hx := hl x rfl
      refine ⟨.str x, rfl, x, rfl, hx, .int w, rfl, _, _, rfl, rfl, _, rfl, ?_⟩
      by_cases hw : (x.length : Int) ≤ w
      · rw [decide_eq_true hw]
        refine iteT ⟨.str x, rfl, x, _, rfl, hx, ?_⟩
        have e : isPfx (.str x) w = isBits x := by
          show (decide ((x.length : Int) ≤ w) && isBits x) = isBits x
          rw [decide_eq_true hw, Bool.true_and]
        rw [e] at q
        exact q
      · rw [decide_eq_false hw]
        refine iteF ?_
        have e : isPfx (.str x) w = false := by
          show (decide ((x.length : Int) ≤ w) && isBits x) = false
          rw [decide_eq_false hw, Bool.false_and]
        rw [e] at q
        exact q
    | _ => exact iteF q
end
section
variable {P : Program} {w : World} {K : PySem.W.Frag} {mg : Str → Option Value} {base : Heap}
theorem scBits : FnScope ["pen", "size", "turn"] ["pen", "size"] (defScope sBits) := ⟨rfl, rfl, rfl, by decide +kernel, rfl, by decide +kernel, by decide +kernel⟩
theorem ok_bits {f fD : Addr} {fd fdD : FuncData} {k : Nat} (F : Fun K "_law_bits" "_law_bits" sBits f fd) (GD : FnOk P w K mg base CX0 k fD fdD ["pen", "below"] spDraw) (FD : Fun K "_law_draw" "_law_draw" sDraw fD fdD) (bD : Binds K fdD ["pen", "below"] []) (gD : mg "_law_draw" = some (.ref fD))
    (mr : mg "range" = none) : FnOk P w K mg base CX0 (k + 1) f fd ["pen", "size"] spBits := by
  refine F.ok scBits (fun vs H Q E h => ?_) (fun cdv A outer s H vs Q E hr h => ?_)
  · obtain ⟨p, c, n, z, m, rfl, _⟩ := h
    rfl
  · obtain ⟨p, c, n, z, m, rfl, hp, hn, hz, q⟩ := h
    have nd := scBits.nd
    have hnB : n + 100 ≤ 1000000000000 := hn
    refine ⟨_, pss_one (ps_ret (pe_join pe_str (pe_lc (own := [("turn", 2)]) (g := gName 2) (tt := tYes) rfl nd
      (pi_range1 (by rfl) mr (pa_cons (pe_call GD hr (by rfl) gD FD.kp bD .nil pass0 (pa_cons (pv 0) (pa_cons (pe_op op_add (pv 1) pe_int) pa_nil))) pa_nil))
      (blkOk_by (N := ["pen", "size", "turn"]) (sc := defScope sBits) (by decide +kernel)) (fun _ _ _ _ _ => pg_name (i := 2) nd rfl (.inl rfl)) (fun _ _ _ _ _ => pts_nil)
      (fun _ _ _ _ _ => pe_ix (r := rIxS) ix_str pe_str (pe_call GD hr (by rfl) gD FD.kp bD .nil pass0 (pa_cons (pv 0) (pa_cons pe_int pa_nil))) (fun _ _ => rfl))))), ?_⟩
    refine ⟨⟨_, rfl⟩, .ref p, rfl, .int z, rfl, _, _, rfl, rfl, p, c, n, m, (z : Int) + 1, rfl, hp, by show n ≤ 1000000000000; omega, by omega, by omega, fun d H1 d0 d1 b1 p1 => ?_⟩
    refine ⟨d, rfl, by omega, by omega, fun D nD => lc_range (n := d.toNat) (fun j H' => ∃ ys : List Str, H' D = some (.lst (ys.map V.str)) ∧ ys.length = j ∧ (∀ y ∈ ys, y = "0" ∨ y = "1") ∧ But p H H' ∧ Pen H' p c (n + 1 + j) m) ?_ ?_ ?_⟩
    · exact ⟨[], upd_same, rfl, fun _ h => absurd h List.not_mem_nil, b1.trans (.of_same (same_upd nD)), p1.off (p1.ne_p nD) (p1.ne_c nD)⟩
    · rintro j H' hj ⟨ys, hD, hy, hys, bH, pj⟩
      refine ⟨rfl, yes_if ?_⟩
      refine ⟨.ref p, rfl, p, c, n + 1 + j, m, 2, rfl, pj, by show n + 1 + j ≤ 1000000000000; omega, by decide, by decide, fun e H'' e0 e1 b p' => ?_⟩
      have hb : ∃ ch, atI (sg "01") e = some ch ∧ ((⟨#[ch]⟩ : Str) = "0" ∨ (⟨#[ch]⟩ : Str) = "1") := by
        obtain rfl | rfl : e = 0 ∨ e = 1 := by omega
        · exact ⟨48, by decide +kernel, .inl (by decide +kernel)⟩
        · exact ⟨49, by decide +kernel, .inr (by decide +kernel)⟩
      obtain ⟨ch, hch, hc⟩ := hb
      refine ⟨"01", e, ch, rfl, rfl, by decide +kernel, hch, _, b D _ (p1.ne_p nD) hD, ?_, ys ++ [⟨#[ch]⟩], ?_, ?_, ?_, ?_, p'.off (p1.ne_p nD) (p1.ne_c nD)⟩
      · exact Nat.lt_of_le_of_lt (show (ys.map V.str).length ≤ 1000 by rw [List.length_map]; omega) (by decide)
      · rw [upd_same, List.map_append]
        rfl
      · rw [List.length_append, hy]
        rfl
      · intro y hy
        rcases List.mem_append.mp hy with hy | hy
        · exact hys y hy
        · rw [List.mem_singleton.mp hy]
          exact hc
      · intro a o na ha
        have naD : a ≠ D := fun e => by
          rw [e, b1.free (p1.ne_p nD) nD] at ha
          cases ha
        rw [upd_ne naD]
        exact b a o na (bH a o na ha)
    · rintro H' ⟨ys, hD, hy, hys, bH, pj⟩
      have s1 : ∀ y ∈ ys, Sm 1 y := fun y h => by
        rcases hys y h with e | e <;> (rw [e]; exact ⟨by decide +kernel, by decide +kernel⟩)
      refine ⟨"", D, ys, rfl, rfl, .inl (SqL.of hD), ?_, ?_⟩
      · have := sum_ones s1
        have e : ((("" : String) : Str)).length = 0 := by decide +kernel
        rw [e]
        omega
      refine q _ H' bH (pj.mono (by omega)) (bits_iff.mpr fun ch hc => ?_) (Nat.le_trans (Sm.join s1).ln (by omega))
      rw [sg_join] at hc
      obtain ⟨l, hl, hc⟩ := List.mem_flatten.mp hc
      obtain ⟨y, hy, rfl⟩ := List.mem_map.mp hl
      rcases hys y hy with e | e
      · rw [e, show sg "0" = [48] by decide +kernel] at hc
        exact .inl (List.mem_singleton.mp hc)
      · rw [e, show sg "1" = [49] by decide +kernel] at hc
        exact .inr (List.mem_singleton.mp hc)
theorem scSize : FnScope ["pen", "size"] ["pen"] (defScope sSize) := ⟨rfl, rfl, rfl, by decide +kernel, rfl, by decide +kernel, by decide +kernel⟩
theorem ok_size {f fD : Addr} {fd fdD : FuncData} {k : Nat} (F : Fun K "_law_size" "_law_size" sSize f fd) (GD : FnOk P w K mg base CX0 k fD fdD ["pen", "below"] spDraw) (FD : Fun K "_law_draw" "_law_draw" sDraw fD fdD) (bD : Binds K fdD ["pen", "below"] []) (gD : mg "_law_draw" = some (.ref fD))
    (ml : mg "len" = none) : FnOk P w K mg base CX0 (k + 1) f fd ["pen"] spSize := by
  refine F.ok scSize (fun vs H Q E h => ?_) (fun cdv A outer s H vs Q E hr h => ?_)
  · obtain ⟨p, c, n, m, rfl, _⟩ := h
    rfl
  · obtain ⟨p, c, n, m, rfl, hp, hn, hm, q⟩ := h
    have nd := scSize.nd
    have hnB : n + 100 ≤ 1000000000000 := hn
    refine ⟨_, pss_cons (ps_set (i := 1) nd rfl (.inl rfl) (pe_ix ix_list (pe_lst (pa_cons pe_int (pa_cons pe_int (pa_cons pe_int (pa_cons pe_int (pa_cons pe_int (pa_cons pe_int pa_nil)))))))
        (pe_call GD hr (by rfl) gD FD.kp bD .nil pass0 (pa_cons (pv 0) (pa_cons pe_int pa_nil))) (fun _ _ => rfl)))
      (pss_cons (ps_if (PW.pt (pw_and (pt_cmpR op_eq (pv 1) pe_int (nomark _)) (pw_and1 (pt_cmpR op_gt (pe_callB call_len_seq (by rfl) ml PySem.boot_len (pa_cons (pv 0) pa_nil)) pe_int (nomark _))))) (pss_one (ps_ret pe_int)) pss_nil)
      (pss_cons (ps_if (pt_cmpR op_eq (pv 1) pe_int (nomark _)) (pss_one (ps_expr (pe_bm PySem.F.plainAttrs_list PySem.F.slot_list_append PySem.F.type_list_append mt_append (pv 0) (pa_cons pe_int pa_nil)))) pss_nil)
      (pss_one (ps_ret (pv 1))))), ?_⟩
    refine ⟨by show 6 ≤ sizeLine; decide, fun l nl => ?_⟩
    refine ⟨.ref p, rfl, p, c, n, m, 6, rfl, hp.keep (same_upd nl), by show n ≤ 1000000000000; omega, by decide, by decide, fun d H1 d0 d1 b1 p1 => ?_⟩
    have b1' : But p H H1 := (But.of_same (same_upd nl)).trans b1
    have hz : ∃ z : Nat, atI ([.int 1, .int 2, .int 3, .int 3, .int 4, .int 32] : List V) d = some (.int z) ∧ 1 ≤ z ∧ z ≤ 32 := by
      obtain rfl | rfl | rfl | rfl | rfl | rfl : d = 0 ∨ d = 1 ∨ d = 2 ∨ d = 3 ∨ d = 4 ∨ d = 5 := by omega
      · exact ⟨1, rfl, by decide, by decide⟩
      · exact ⟨2, rfl, by decide, by decide⟩
      · exact ⟨3, rfl, by decide, by decide⟩
      · exact ⟨3, rfl, by decide, by decide⟩
      · exact ⟨4, rfl, by decide, by decide⟩
      · exact ⟨32, rfl, by decide, by decide⟩
    obtain ⟨z, ez, z1, z32⟩ := hz
    refine ⟨l, _, d, _, rfl, rfl, SqL.of (b1 l _ (hp.ne_p nl) upd_same), ez, ?_⟩
    obtain ⟨ns, i, st, P1⟩ := id p1
    have hP : H1 p = some (.lst (.ref c :: .int i :: .int st :: m)) := P1.at_
    refine ⟨.int z, rfl, rfl, _, rfl, ite2 (fun e => ?_) (fun e => ?_)⟩
    · refine ⟨.ref p, rfl, p, _, rfl, .inl (SqL.of hP), _, _, rfl, rfl, _, rfl, ite2 (fun _ => q 5 m H1 b1' p1 hm (by decide) (by decide)) (fun e2 => ?_)⟩
      have hm0 : m = [] := by
        cases m with
        | nil => rfl
        | cons x r =>
          refine absurd (decide_eq_true ?_) e2
          rw [List.length_cons, List.length_cons, List.length_cons, List.length_cons]
          omega
      subst hm0
      refine ⟨.int z, rfl, rfl, _, rfl, ite2 (fun _ => ?_) (fun e3 => absurd e e3)⟩
      refine ⟨.ref p, rfl, .inl ⟨rfl, _, SqL.of hP⟩, p, _, _, rfl, rfl, hP, by show 3 < sizeLine; decide, ?_⟩
      refine ⟨.int z, rfl, q z [.int 1] _ (b1'.trans .upd) ⟨ns, i, st, upd_same, ?_, P1.len, P1.i0, P1.i1, P1.s0⟩ (Nat.le_refl _) z1 z32⟩
      rw [upd_ne P1.ne]
      exact P1.cells
    · refine ⟨.int z, rfl, rfl, _, rfl, ite2 (fun e3 => absurd e3 e) (fun _ => ?_)⟩
      exact ⟨.int z, rfl, q z m H1 b1' p1 hm z1 z32⟩
end
section
variable {P : Program} {w : World} {K : PySem.W.Frag} {mg : Str → Option Value} {base : Heap}
theorem scPrefixes : FnScope ["pen", "size", "most", "found", "turn", "start", "prefix"] ["pen", "size", "most"] (defScope sPrefixes) := ⟨rfl, rfl, rfl, by decide +kernel, rfl, by decide +kernel, by decide +kernel⟩
theorem ok_prefixes {f fD fB : Addr} {fd fdD fdB : FuncData} {k : Nat} (F : Fun K "_law_prefixes" "_law_prefixes" sPrefixes f fd) (GD : FnOk P w K mg base CX0 k fD fdD ["pen", "below"] spDraw) (FD : Fun K "_law_draw" "_law_draw" sDraw fD fdD) (bD : Binds K fdD ["pen", "below"] []) (gD : mg "_law_draw" = some (.ref fD))
    (GB : FnOk P w K mg base CX0 k fB fdB ["pen", "size"] spBits) (FB : Fun K "_law_bits" "_law_bits" sBits fB fdB) (bB : Binds K fdB ["pen", "size"] []) (gB : mg "_law_bits" = some (.ref fB))
    (mr : mg "range" = none) (ml : mg "len" = none) (mm : mg "min" = none) : FnOk P w K mg base CX0 (k + 1) f fd ["pen", "size", "most"] spPrefixes := by
  refine F.ok scPrefixes (fun vs H Q E h => ?_) (fun cdv A outer s H vs Q E hr h => ?_)
  · obtain ⟨p, c, n, z, k, m, rfl, _⟩ := h
    rfl
  · obtain ⟨p, c, n, z, most, m, rfl, hp, hn, hz, hk, q⟩ := h
    have nd := scPrefixes.nd
    have hu := hr.units
    have hnB : n + 1000 ≤ 1000000000000 := hn
    refine ⟨_, pss_cons (ps_set (i := 3) nd rfl (.inl rfl) (pe_lst pa_nil))
      (pss_cons (ps_for PassesOwn.never rfl (pi_range1 (by rfl) mr (pa_cons (pe_call GD hr (by rfl) gD FD.kp bD .nil pass0 (pa_cons (pv 0) (pa_cons (pe_op op_add (pv 2) pe_int) pa_nil))) pa_nil)) (pg_name (i := 4) nd rfl (.inl rfl))
        (C8.pss_cut (ps_set (i := 5) nd rfl (.inl rfl) (pe_ifExp (PW.pt (pw_and (pt_cmpR (op_neD hu) (pv 3) (pe_lst pa_nil) (nomark _)) (pw_and1 (pt_cmpR op_eq (pe_call GD hr (by rfl) gD FD.kp bD .nil pass0 (pa_cons (pv 0) (pa_cons pe_int pa_nil))) pe_int (nomark _)))))
            (pe_ix ix_list (pv 3) (pe_call GD hr (by rfl) gD FD.kp bD .nil pass0 (pa_cons (pv 0) (pa_cons (pe_callB call_len_seq (by rfl) ml PySem.boot_len (pa_cons (pv 3) pa_nil)) pa_nil))) (fun _ _ => rfl)) pe_str))
        (pss_cons (ps_set (i := 6) nd rfl (.inl rfl) (pe_slice sl_str (pe_op op_add_str (pv 5) (pe_call GB hr (by rfl) gB FB.kp bB .nil pass0 (pa_cons (pv 0) (pa_cons (pe_callB (call_min2 rfl) (by rfl) mm (by decide +kernel) (pa_cons (pv 1) (pa_cons pe_int pa_nil))) pa_nil)))) po_none (po_some (pv 1))))
        (pss_one (ps_if (pt_cmpR op_notIn_seq (pv 6) (pv 3) (by rfl)) (pss_one (ps_expr (pe_bm PySem.F.plainAttrs_list PySem.F.slot_list_append PySem.F.type_list_append mt_append (pv 3) (pa_cons (pv 6) pa_nil)))) pss_nil)))))
      (pss_one (ps_ret (pv 3)))), ?_⟩
    refine ⟨Nat.zero_le _, fun l nl => ?_⟩
    have lp : l ≠ p := hp.ne_p nl
    have lc : l ≠ c := hp.ne_c nl
    refine ⟨.ref p, rfl, .int most, rfl, _, _, rfl, rfl, p, c, n, m, (most : Int) + 1, rfl, hp.keep (same_upd nl), by show n ≤ 1000000000000; omega, by omega, by omega, fun d H1 d0 d1 b1 p1 => ?_⟩
    refine ⟨d, rfl, by omega, by omega, for_range (n := d.toNat) (fun i σ H' => ∃ xs x4 x5 x6, σ = [some (.ref p), some (.int z), some (.int most), some (.ref l), x4, x5, x6] ∧ H' l = some (.lst (xs.map V.str)) ∧ PfxL z xs ∧ xs.length ≤ i ∧ But p H H' ∧ Pen H' p c (n + 1 + 8 * i) m) ?_ ?_ ?_⟩
    · exact ⟨[], _, _, _, rfl, b1 l _ lp upd_same, ⟨List.nodup_nil, fun _ h => absurd h List.not_mem_nil, fun _ h => absurd h List.not_mem_nil⟩, Nat.le_refl _, (But.of_same (same_upd nl)).trans b1, p1⟩
    · rintro i σ H' hi ⟨xs, x4, x5, x6, rfl, hl, hx, hxl, bH, pH⟩
      have hxz : xs.length ≤ 20 := by omega
      refine ⟨fun σ' H'' => ∃ x : Str, σ' = [some (.ref p), some (.int z), some (.int most), some (.ref l), some (.int (0 + i)), some (.str x), x6] ∧ isBits x = true ∧ x.length ≤ z ∧ H'' l = some (.lst (xs.map V.str)) ∧ But p H H'' ∧ Pen H'' p c (n + 1 + 8 * i + 2) m, ?_, ?_⟩
      · refine ⟨.ref l, rfl, Nat.zero_le _, fun e ne => ?_⟩
        have s1 := same_upd (o := .lst []) ne
        have hl1 := s1 _ _ hl
        refine ⟨.list (xs.map PyData.str), .list [], .lst (SqL.of hl1) (dpAll_strs xs), .lst (SqL.of upd_same) .nil, shaped_strs hx.bits, rfl, _, rfl, ?_⟩
        rw [eqv_nilS]
        have pH1 := pH.keep s1
        have bH1 := bH.trans (.of_same s1)
        revert hl1 pH1 bH1
        generalize upd H' e (.lst []) = H2
        intro hl1 pH1 bH1
        by_cases hz0 : xs = []
        · rw [decide_eq_true hz0]
          refine iteF (iteF ?_)
          exact ⟨"", rfl, bits_empty, Nat.zero_le _, hl1, bH1, pH1.mono (by omega)⟩
        · rw [decide_eq_false hz0]
          refine iteT ?_
          refine ⟨.ref p, rfl, p, c, _, m, 2, rfl, pH1, by show n + 1 + 8 * i ≤ 1000000000000; omega, by decide, by decide, fun e H3 e0 e1 b3 p3 => ?_⟩
          refine ⟨rfl, _, rfl, ite2 (fun _ => ?_) (fun _ => ?_)⟩
          · have hl3 := b3 _ _ lp hl1
            have hpos : 0 < xs.length := List.length_pos_iff.mpr hz0
            refine ⟨.ref l, rfl, .ref p, rfl, .ref l, rfl, l, _, rfl, .inl (SqL.of hl3), p, c, _, m, (((xs.map V.str).length : Nat) : Int), rfl, p3, by show n + 1 + 8 * i + 1 ≤ 1000000000000; omega, by rw [List.length_map]; omega, by rw [List.length_map]; omega, fun g H4 g0 g1 b4 p4 => ?_⟩
            rw [List.length_map] at g1
            have hg : g.toNat < xs.length := by omega
            refine ⟨l, _, g, .str xs[g.toNat], rfl, rfl, SqL.of (b4 _ _ lp hl3), at_of (j := g.toNat) (by omega) (by rw [List.getElem?_map, List.getElem?_eq_getElem hg]; rfl), ?_⟩
            exact ⟨xs[g.toNat], rfl, hx.bits _ (List.getElem_mem hg), hx.len _ (List.getElem_mem hg), b4 _ _ lp hl3, (bH1.trans b3).trans b4, p4⟩
          · exact ⟨"", rfl, bits_empty, Nat.zero_le _, b3 _ _ lp hl1, bH1.trans b3, p3.mono (by omega)⟩
      · rintro σ' H'' ⟨x, rfl, hxb, hxz2, hl2, bH2, pH2⟩
        have hmin : (if (5 : Int) < (z : Int) then (5 : Int) else (z : Int)) = ((min 5 z : Nat) : Int) := by
          by_cases h5 : (5 : Int) < (z : Int)
          · rw [if_pos h5]
            omega
          · rw [if_neg h5]
            omega
        refine ⟨.str x, rfl, .ref p, rfl, .int z, rfl, _, _, rfl, p, c, _, min 5 z, m, ?_, pH2, by show n + 1 + 8 * i + 2 + 100 ≤ 1000000000000; omega, by omega, fun y H3 b3 p3 hyb hyl => ?_⟩
        · show [V.ref p, V.int (if (5 : Int) < (z : Int) then 5 else z)] = _
          rw [hmin]
        refine ⟨_, _, rfl, rfl, Nat.le_trans (show x.length + y.length ≤ 1000 by omega) (by decide), .int z, rfl, z, rfl, _, rfl, ?_, ?_⟩
        · rw [strLen_append]
          exact Nat.le_trans (show x.length + y.length ≤ 1000 by omega) (by decide)
        have hb : isBits (cutS (x ++ y) none (some (z : Int))) = true := bits_cut (bits_app hxb hyb) _ _
        have hlz := take_len (x ++ y) z
        revert hb hlz
        generalize cutS (x ++ y) none (some (z : Int)) = pf
        intro hb hlz
        have hl3 := b3 _ _ lp hl2
        have bH3 := bH2.trans b3
        refine ⟨.str pf, rfl, .ref l, rfl, l, _, rfl, .inl (SqL.of hl3), rfl, flat_str xs, _, rfl, ?_⟩
        show if (if true = true then !inV (.str pf) (xs.map V.str) else inV (.str pf) (xs.map V.str)) = true then _ else _
        rw [if_pos rfl, inV_str]
        have hp3 : Pen H3 p c (n + 1 + 8 * (i + 1)) m := p3.mono (by omega)
        by_cases hmem : pf ∈ xs
        · rw [decide_eq_true hmem]
          refine iteF ?_
          exact ⟨xs, _, _, _, rfl, hl3, hx, by omega, bH3, hp3⟩
        · rw [decide_eq_false hmem]
          refine iteT ?_
          refine ⟨.ref l, rfl, .inl ⟨rfl, _, SqL.of hl3⟩, .str pf, rfl, l, _, _, rfl, rfl, hl3, ?_, ?_⟩
          · exact Nat.lt_of_le_of_lt (show (xs.map V.str).length ≤ 1000 by rw [List.length_map]; omega) (by decide)
          · refine ⟨xs ++ [pf], _, _, _, rfl, by rw [upd_same, List.map_append]; rfl, ⟨?_, ?_, ?_⟩, by rw [List.length_append, List.length_singleton]; omega, ?_, hp3.off lp lc⟩
            · rw [List.nodup_append]
              refine ⟨hx.nd, (List.nodup_cons.mpr ⟨List.not_mem_nil, List.nodup_nil⟩), fun a ha b hb e => hmem ?_⟩
              rw [List.mem_singleton.mp hb] at e
              rw [← e]
              exact ha
            · intro y hy
              rcases List.mem_append.mp hy with hy | hy
              · exact hx.bits y hy
              · rw [List.mem_singleton.mp hy]
                exact hb
            · intro y hy
              rcases List.mem_append.mp hy with hy | hy
              · exact hx.len y hy
              · rw [List.mem_singleton.mp hy]
                exact hlz
            · intro a o na ha
              have nal : a ≠ l := ne_of_none ha nl
              rw [upd_ne nal]
              exact bH3 a o na ha
    · rintro σ H' ⟨xs, x4, x5, x6, rfl, hl, hx, hxl, bH, pH⟩
      have hd : d.toNat ≤ most := by omega
      exact ⟨.ref l, rfl, q l xs H' bH (pH.mono (by omega)) nl hl hx (by omega)⟩
end
/-! ### is_whole, is_width -/
def spWhole (K : PySem.W.Frag) : Sp := fun vs H Q _ => ∃ v t, vs = [v] ∧ TyI K H v t ∧ Q (.bl (isWholeV v)) H
def spWidth (K : PySem.W.Frag) : Sp := fun vs H Q _ => ∃ v t, vs = [v] ∧ TyI K H v t ∧ Q (.bl (isWidthV v)) H
section
variable {P : Program} {w : World} {K : PySem.W.Frag} {mg : Str → Option Value} {base : Heap}
theorem scWhole : FnScope ["thing"] ["thing"] (defScope sWhole) := ⟨rfl, rfl, rfl, by decide +kernel, rfl, by decide +kernel, by decide +kernel⟩
theorem ok_whole {f : Addr} {fd : FuncData} {k : Nat} (F : Fun K "is_whole" "is_whole" sWhole f fd) (mi : mg "isinstance" = none) (mn : mg "int" = none) (mb : mg "bool" = none) : FnOk P w K mg base CX0 (k + 1) f fd ["thing"] (spWhole K) := by
  refine F.ok scWhole (fun vs H Q E h => ?_) (fun cdv A outer s H vs Q E hr h => ?_)
  · obtain ⟨v, t, rfl, _⟩ := h
    rfl
  · obtain ⟨v, t, rfl, ty, q⟩ := h
    refine ⟨_, pss_one (ps_ret (pe_and (pe_callB call_isi (by rfl) mi (by decide +kernel) (pa_cons (pv 0) (pa_cons (pe_bltn (v := .ty "int") (by rfl) mn (by decide +kernel) rfl) pa_nil)))
      (pe_one (pe_not (pe_callB call_isi (by rfl) mi (by decide +kernel) (pa_cons (pv 0) (pa_cons (pe_bltn (v := .ty "bool") (by rfl) mb (by decide +kernel) rfl) pa_nil))))))), ?_⟩
    refine ⟨v, rfl, v, .ty "int", .type t, .type "int", _, rfl, .ty _, ty.ty, ty.int, _, rfl, ?_⟩
    have two : Q (.bl (isWholeV v)) H → isIntish v = true → (!isBoolV v) = isWholeV v := fun _ h => by cases v <;> first | rfl | cases h
    cases e : isIntish v with
    | true =>
      refine iteT ⟨v, rfl, v, .ty "bool", .type t, .type "bool", _, rfl, .ty _, ty.ty, ty.bool, _, rfl, ?_⟩
      rw [two q e]
      exact q
    | false =>
      refine iteF ?_
      have e2 : isWholeV v = false := by cases v <;> first | rfl | cases e
      rw [e2] at q
      exact q
theorem scWidth : FnScope ["thing"] ["thing"] (defScope sWidth) := ⟨rfl, rfl, rfl, by decide +kernel, rfl, by decide +kernel, by decide +kernel⟩
theorem ok_width {f fW : Addr} {fd fdW : FuncData} {k : Nat} {tk : Tok} (F : Fun K "is_width" "is_width" sWidth f fd) (GW : FnOk P w K mg base CX0 k fW fdW ["thing"] (spWhole K)) (FW : Fun K "is_whole" "is_whole" sWhole fW fdW) (bW : Binds K fdW ["thing"] []) (gW : mg "is_whole" = some (.ref fW))
    (mW : mg "WIDEST" = some (.int 32 tk)) : FnOk P w K mg base CX0 (k + 1) f fd ["thing"] (spWidth K) := by
  refine F.ok scWidth (fun vs H Q E h => ?_) (fun cdv A outer s H vs Q E hr h => ?_)
  · obtain ⟨v, t, rfl, _⟩ := h
    rfl
  · obtain ⟨v, t, rfl, ty, q⟩ := h
    refine ⟨_, pss_one (ps_ret (pe_and (pe_call GW hr (by rfl) gW FW.kp bW .nil pass0 (pa_cons (pv 0) pa_nil)) (pe_one (pe_chain op_le op_le pe_int (pv 0) (pe_glob (v := .int 32) rfl mW ⟨_, rfl⟩))))), ?_⟩
    refine ⟨v, rfl, v, t, rfl, ty, _, rfl, ?_⟩
    cases v with
    | int z =>
      refine iteT ⟨.int z, rfl, _, _, rfl, rfl, _, rfl, ?_⟩
      have q' : Q (.bl (decide ((1 : Int) ≤ z) && decide (z ≤ 32))) H := q
      by_cases h1 : (1 : Int) ≤ z
      · rw [decide_eq_true h1] at q' ⊢
        rw [Bool.true_and] at q'
        exact iteT ⟨_, _, rfl, rfl, q'⟩
      · rw [decide_eq_false h1] at q' ⊢
        rw [Bool.false_and] at q'
        exact iteF q'
    | _ => exact iteF q
end
/-! ### the class of maps -/
abbrev sInit : Stmt := inClass sCls 0
abbrev sChk : Stmt := inClass sCls 2
abbrev sLongest : Stmt := inClass sCls 8
theorem wr_ : ¬ (("_width" : Str) = "_rows") := by decide +kernel
theorem rw_ : ¬ (("_rows" : Str) = "_width") := by decide +kernel
/-- the attributes of a map -/
def flds (w : Nat) (e : Addr) : List (Str × V) := putF "_rows" (.ref e) (putF "_width" (.int w) [])
theorem flds_w (w : Nat) (e : Addr) : (flds w e).lookup ("_width" : Str) = some (.int w) := by
  unfold flds
  rw [lookup_putF, if_neg wr_, lookup_putF, if_pos rfl]
theorem flds_r (w : Nat) (e : Addr) : (flds w e).lookup ("_rows" : Str) = some (.ref e) := by
  unfold flds
  rw [lookup_putF, if_pos rfl]
theorem flds_no (w : Nat) (e : Addr) {m : Str} (h1 : ¬ m = "_rows") (h2 : ¬ m = "_width") : (flds w e).lookup m = none := by
  unfold flds
  rw [lookup_putF, if_neg h1, lookup_putF, if_neg h2]
  rfl
/-- at x a map of the class at C, its rows at e -/
structure MapAt (C : Addr) (H : Hp) (x e : Addr) (w : Nat) (kvs : List (Key × V)) : Prop where
  ob : ∃ dx, H x = some (.ins C dx (flds w e))
  dc : H e = some (.dK kvs)
theorem MapAt.same {C : Addr} {H H' : Hp} {x e : Addr} {w : Nat} {kvs : List (Key × V)} (k : Same H H') (h : MapAt C H x e w kvs) : MapAt C H' x e w kvs := by
  obtain ⟨⟨dx, h1⟩, h2⟩ := h
  exact ⟨⟨dx, k _ _ h1⟩, k _ _ h2⟩
theorem MapAt.but {C : Addr} {H H' : Hp} {p x e : Addr} {w : Nat} {kvs : List (Key × V)} (k : But p H H') (n1 : x ≠ p) (n2 : e ≠ p) (h : MapAt C H x e w kvs) : MapAt C H' x e w kvs := by
  obtain ⟨⟨dx, h1⟩, h2⟩ := h
  exact ⟨⟨dx, k _ _ n1 h1⟩, k _ _ n2 h2⟩
/-- the same rows, in ascending order -/
structure Sorted (xs : List Str) (kvs kvs' : List (Key × V)) (ys : List Str) : Prop where
  keys : kvs'.map (·.1) = ys.map Sum.inr
  perm : ys.Perm xs
  up : sortedS ys = true
  val : ∀ y ∈ xs, valV kvs' (.inr y) = valV kvs (.inr y)
structure ClsF (K : PySem.W.Frag) (C : Addr) : Prop where
  cl : Cls K C
  nW : NoAttr K C "_width"
  nR : NoAttr K C "_rows"
/-- _checked of a value of the right kind: the value -/
def spChk (K : PySem.W.Frag) (C : Addr) (vok : V → Prop) : Sp := fun vs H Q _ => ∃ (x dx : Addr) (fs : List (Str × V)) (v : V), vs = [.ref x, v] ∧ H x = some (.ins C dx fs) ∧ (∀ m : Str, ¬ m = "_width" → fs.lookup m = none) ∧ vok v ∧ Q v H
def spInit (K : PySem.W.Frag) (C : Addr) (vok : V → Prop) : Sp := fun vs H Q _ => ∃ (x dx d : Addr) (w : Nat) (xs : List Str) (kvs : List (Key × V)), vs = [.ref x, .int w, .ref d] ∧ H x = some (.ins C dx []) ∧ 1 ≤ w ∧ w ≤ 32 ∧ H d = some (.dK kvs) ∧ RowsOk w vok xs kvs ∧ xs.length < 64 ∧
  ∀ (e : Addr) (ys : List Str) (kvs' : List (Key × V)) (H' : Hp), H e = none → Sorted xs kvs kvs' ys → MapAt C H' x e w kvs' → (∀ b o, H b = some o → b ≠ x → H' b = some o) → Q .non H'
def spLongest (K : PySem.W.Frag) (C : Addr) : Sp := fun vs H Q _ => ∃ (x e : Addr) (w : Nat) (xs : List Str) (kvs : List (Key × V)) (y : Str), vs = [.ref x, .str y] ∧ MapAt C H x e w kvs ∧ kvs.map (·.1) = xs.map Sum.inr ∧ isBits y = true ∧ y.length ≤ w ∧ w ≤ 32 ∧
  ∀ r : Option Str, IsLong xs y r → Q (optV r) H
section
variable {P : Program} {w : World} {K : PySem.W.Frag} {mg : Str → Option Value} {base : Heap}
theorem scChk : FnScope ["self", "value"] ["self", "value"] (defScope sChk) := ⟨rfl, rfl, rfl, by decide +kernel, rfl, by decide +kernel, by decide +kernel⟩
theorem ok_chk {f fW C : Addr} {fd fdW : FuncData} {k : Nat} (F : Fun K "_checked" "PrefixMap._checked" sChk f fd) (GW : FnOk P w K mg base CX0 k fW fdW ["thing"] (spWhole K)) (FW : Fun K "is_whole" "is_whole" sWhole fW fdW) (bW : Binds K fdW ["thing"] []) (gW : mg "is_whole" = some (.ref fW)) :
    FnOk P w K mg base CX0 (k + 1) f fd ["self", "value"] (spChk K C isIntV) := by
  refine F.ok scChk (fun vs H Q E h => ?_) (fun cdv A outer s H vs Q E hr h => ?_)
  · obtain ⟨x, dx, fs, v, rfl, _⟩ := h
    rfl
  · obtain ⟨x, dx, fs, v, rfl, hx, _, hv, q⟩ := h
    refine ⟨_, pss_cons (ps_if (pt_not (pt_val (pe_call GW hr (by rfl) gW FW.kp bW .nil pass0 (pa_cons (pv 1) pa_nil)))) (pss_one ps_never) pss_nil) (pss_one (ps_ret (pv 1))), ?_⟩
    cases v with
    | int i =>
      obtain ⟨t, ht⟩ := TyI.of (K := K) (H := H) (N := fun _ => True) (.int i)
      exact ⟨.int i, rfl, .int i, t, rfl, ht, _, rfl, iteF ⟨.int i, rfl, q⟩⟩
    | _ => exact hv.elim
theorem scInit : FnScope ["self", "width", "rows", "prefix"] ["self", "width", "rows"] (defScope sInit) := ⟨rfl, rfl, rfl, by decide +kernel, rfl, by decide +kernel, by decide +kernel⟩
theorem ok_init {f fW fP fC C : Addr} {fd fdW fdP fdC : FuncData} {k : Nat} {vok : V → Prop} (F : Fun K "__init__" "PrefixMap.__init__" sInit f fd) (T : ClsF K C) (GW : FnOk P w K mg base CX0 k fW fdW ["thing"] (spWidth K)) (FW : Fun K "is_width" "is_width" sWidth fW fdW) (bW : Binds K fdW ["thing"] []) (gW : mg "is_width" = some (.ref fW))
    (GP : FnOk P w K mg base CX0 k fP fdP ["thing", "width"] (spPfx K)) (FP : Fun K "is_prefix" "is_prefix" sPfx fP fdP) (bP : Binds K fdP ["thing", "width"] []) (gP : mg "is_prefix" = some (.ref fP))
    (GC : FnOk P w K mg base CX0 k fC fdC ["self", "value"] (spChk K C vok)) (mC : Meth K C "_checked" fC) (bC : Binds K fdC ["self", "value"] []) (mi : mg "isinstance" = none) (md : mg "dict" = none) (ms : mg "sorted" = none) :
    FnOk P w K mg base CX0 (k + 1) f fd ["self", "width", "rows"] (spInit K C vok) := by
  refine F.ok scInit (fun vs H Q E h => ?_) (fun cdv A outer s H vs Q E hr h => ?_)
  · obtain ⟨x, dx, d, w, xs, kvs, rfl, _⟩ := h
    rfl
  · obtain ⟨x, dx, d, w, xs, kvs, rfl, hx, w1, w32, hd, ok, h64, q⟩ := h
    have nd := scInit.nd
    have hu := hu_of hr
    refine ⟨_, pss_cons (ps_if (pt_not (pt_val (pe_call GW hr (by rfl) gW FW.kp bW .nil pass0 (pa_cons (pv 1) pa_nil)))) (pss_one ps_never) pss_nil)
      (pss_cons (ps_if (pt_not (pt_val (pe_callB call_isi (by rfl) mi (by decide +kernel) (pa_cons (pv 2) (pa_cons (pe_bltn (v := .ty "dict") (by rfl) md (by decide +kernel) rfl) pa_nil))))) (pss_one ps_never) pss_nil)
      (pss_cons (ps_lock (ps_for PassesOwn.never rfl (pi_keys (pv 2)) (pg_name (i := 3) nd rfl (.inl rfl))
        (pss_one (ps_if (pt_not (pt_val (pe_call GP hr (by rfl) gP FP.kp bP .nil pass0 (pa_cons (pv 3) (pa_cons (pv 1) pa_nil))))) (pss_one ps_never) pss_nil))))
      (pss_cons (ps_fld (pv 0) (pv 1) rfl)
      (pss_one (ps_fld (pv 0) (pe_dc (own := [("prefix", 3)]) (g := gName 3) (tt := tYes) rfl nd (pi_list (pe_callB (call_sortedD rfl) (by rfl) ms (by decide +kernel) (pa_cons (pv 2) pa_nil)))
        (blkOk_by (N := ["self", "width", "rows", "prefix"]) (sc := defScope sInit) (by decide +kernel)) (fun _ _ _ _ _ => pg_name (i := 3) nd rfl (.inl rfl)) (fun _ _ _ _ _ => pts_nil) (fun _ _ _ _ _ => pv 3)
        (fun _ _ _ _ _ => pe_meth (pv 0) T.cl mC GC hr bC .nil pass0 (pa_cons (pe_dget hu (pv 2) (pv 3) (fun _ _ => rfl)) pa_nil))) rfl))))), ?_⟩
    -- the width
    obtain ⟨t, ht⟩ := TyI.of (K := K) (H := H) (N := fun _ => True) (.int (w : Int))
    refine ⟨.int w, rfl, .int w, t, rfl, ht, _, rfl, ?_⟩
    have hw : isWidthV (.int (w : Int)) = true := by
      show (decide ((1 : Int) ≤ w) && decide ((w : Int) ≤ 32)) = true
      rw [decide_eq_true (by omega), decide_eq_true (by omega)]
      rfl
    rw [hw]
    refine iteF ?_
    -- a dict
    refine ⟨.ref d, rfl, .ref d, .ty "dict", .type "dict", .type "dict", _, rfl, .ty _, .base (.dK hd), kitv (b := true) (by decide +kernel), _, rfl, iteF ?_⟩
    -- its prefixes
    refine ⟨d, .dK kvs, hd, trivial, fun od => ?_⟩
    refine ⟨.ref d, rfl, d, od, rfl, .inl ⟨kvs, upd_same, ?_⟩⟩
    refine for_it walk_keys (fun _ σ H' => (∃ x3, σ = [some (.ref x), some (.int w), some (.ref d), x3]) ∧ H' = upd H d (.frz od (.dK kvs))) ⟨⟨_, rfl⟩, rfl⟩ (fun _ _ _ _ h => by rw [h.2, upd_same]) ?_ ?_
    · rintro i v σ H1 H2 hi ⟨⟨x3, rfl⟩, rfl⟩ ⟨rfl, k, v', hkv, rfl⟩
      obtain ⟨y, hy, rfl⟩ := key_at ok.keys hkv
      have hym := List.mem_of_getElem? hy
      refine ⟨.str y, rfl, .int w, rfl, .str y, w, rfl, TyS.of (N := fun _ => True) (.str y), fun z e => ?_, _, rfl, ?_⟩
      · rw [← V.str.inj e]
        exact Nat.le_trans (ok.pfx.len y hym) (Nat.le_trans w32 (by decide))
      have e : isPfx (.str y) (w : Int) = true := by
        show (decide ((y.length : Int) ≤ w) && isBits y) = true
        rw [decide_eq_true (by have := ok.pfx.len y hym; omega), ok.pfx.bits y hym]
        rfl
      rw [e]
      exact iteF ⟨⟨_, rfl⟩, rfl⟩
    · rintro σ H1 ⟨⟨x3, rfl⟩, rfl⟩
      refine ⟨upd_same, ?_⟩
      rw [upd_back hd]
      -- the attributes
      refine ⟨.int w, rfl, .ref x, rfl, x, C, dx, [], rfl, hx, T.cl, T.nW, (by show 0 < 1000; decide), ?_⟩
      have ndx : d ≠ x := ne_of hd hx (fun e => nomatch e)
      have hdW : (upd H x (.ins C dx (putF "_width" (.int w) []))) d = some (.dK kvs) := by rw [upd_ne ndx]; exact hd
      refine ⟨.ref d, rfl, d, kvs, xs, rfl, .inl hdW, ok.keys, h64, fun ys l hperm hup nl => ?_⟩
      have hll : (upd (upd H x (.ins C dx (putF "_width" (.int w) []))) l (.lst (ys.map V.str))) l = some (.lst (ys.map V.str)) := upd_same
      have s1 := same_upd (o := .lst (ys.map V.str)) nl
      have hx1 := s1 _ _ (upd_same (H := H) (a := x) (o := .ins C dx (putF "_width" (.int w) [])))
      have hd1 := s1 _ _ hdW
      have old1 : ∀ b o, H b = some o → b ≠ x → (upd (upd H x (.ins C dx (putF "_width" (.int w) []))) l (.lst (ys.map V.str))) b = some o := fun b o e nb => s1 b o (by rw [upd_ne nb]; exact e)
      revert hll hx1 hd1 old1
      generalize upd (upd H x (.ins C dx (putF "_width" (.int w) []))) l (.lst (ys.map V.str)) = H2
      intro hll hx1 hd1 old1
      refine ⟨l, rfl, ⟨_, SqL.of hll⟩, fun G nG => ?_⟩
      have nxG : x ≠ G := ne_of_none hx1 nG
      have ndG : d ≠ G := ne_of_none hd1 nG
      have kn : (kvs.map (·.1)).Nodup := by
        rw [ok.keys]
        exact ok.pfx.nd.map Sum.inr (fun a b h e => h (Sum.inr.inj e))
      refine dc_it walk_list (fun i H' => ∃ kvs', H' G = some (.dK kvs') ∧ kvs'.map (·.1) = (ys.take i).map Sum.inr ∧ (∀ y v, (Sum.inr y, v) ∈ kvs' → valV kvs (.inr y) = some v) ∧ ∀ b o, H2 b = some o → H' b = some o) ⟨[], upd_same, rfl, fun _ _ h => (List.not_mem_nil h).elim, fun b o e => by rw [upd_ne (ne_of_none e nG)]; exact e⟩
        (fun _ H' _ h => by obtain ⟨_, _, _, _, k⟩ := h; exact SqL.of (k _ _ hll)) ?_ ?_
      · rintro i v H3 H4 hi ⟨kvs', hG, hk, hv, keep⟩ ⟨rfl, hvi⟩
        rw [List.getElem?_map] at hvi
        have hil : i < ys.length := by
          rw [List.length_map] at hi
          exact hi
        rw [List.getElem?_eq_getElem hil] at hvi
        obtain rfl : V.str ys[i] = v := Option.some.inj hvi
        have hym : ys[i] ∈ xs := hperm.mem_iff.mp (List.getElem_mem hil)
        refine ⟨rfl, yes_if ?_⟩
        have hkm : (Sum.inr ys[i] : Key) ∈ kvs.map (·.1) := (inr_mem ok.keys _).mpr hym
        obtain ⟨v, hval⟩ := Option.isSome_iff_exists.mp (valV_mem.mpr hkm)
        have hmem : (Sum.inr ys[i], v) ∈ kvs := by
          unfold valV at hval
          obtain ⟨p, hp, e⟩ := Option.map_eq_some_iff.mp hval
          have h1 := List.mem_of_find?_eq_some hp
          have h2 : p.1 = Sum.inr ys[i] := by
            have z := List.find?_some hp
            exact of_decide_eq_true z
          rw [← h2, ← e]
          exact h1
        refine ⟨.str ys[i], rfl, .ref x, rfl, x, dx, _, rfl, keep _ _ hx1, ?_, .ref d, rfl, .str ys[i], rfl, d, v, rfl, by rw [← hval]; exact DGet.k (k := .inr ys[i]) (keep _ _ hd1), ?_⟩
        · rw [lookup_putF, if_neg (by decide +kernel)]
          rfl
        refine ⟨x, dx, _, v, rfl, keep _ _ hx1, fun m nm => by rw [lookup_putF, if_neg nm]; rfl, ok.val _ hmem, kvs', .inr ys[i], rfl, hG, ?_, ?_⟩
        · have : kvs'.length = ((ys.take i).map Sum.inr : List Key).length := by rw [← hk, List.length_map]
          rw [List.length_map, List.length_take] at this
          have hp := hperm.length_eq
          exact Nat.lt_of_le_of_lt (show kvs'.length ≤ 1000 by omega) (by decide)
        have hnew : (Sum.inr ys[i] : Key) ∉ kvs'.map (·.1) := by
          rw [hk, List.mem_map]
          rintro ⟨z, hz, e⟩
          have ynd : ys.Nodup := hperm.nodup_iff.mpr ok.pfx.nd
          obtain ⟨j, hj, ej⟩ := List.mem_take_iff_getElem.mp hz
          have e2 : ys[j]'(by omega) = ys[i] := by rw [ej]; exact Sum.inr.inj e
          have := (List.getElem_inj ynd).mp e2
          omega
        refine ⟨kvs' ++ [(.inr ys[i], v)], by rw [upd_same, putK_end hnew], ?_, ?_, ?_⟩
        · rw [List.map_append, hk, List.take_add_one, List.getElem?_eq_getElem hil, List.map_append]
          rfl
        · intro y v' hm
          rcases List.mem_append.mp hm with hm | hm
          · exact hv y v' hm
          · obtain e := List.mem_singleton.mp hm
            cases e
            exact hval
        · intro b o e
          rw [upd_ne (ne_of_none e nG)]
          exact keep b o e
      · rintro H3 ⟨kvs', hG, hk, hv, keep⟩
        have etake : ys.take (ys.map V.str).length = ys := List.take_of_length_le (by rw [List.length_map]; exact Nat.le_refl _)
        rw [etake] at hk
        refine ⟨.ref x, rfl, x, C, dx, _, rfl, keep _ _ hx1, T.cl, T.nR, (by show 1 < 1000; decide), ?_⟩
        have ynd : ys.Nodup := hperm.nodup_iff.mpr ok.pfx.nd
        have kn' : (kvs'.map (·.1)).Nodup := by
          rw [hk]
          exact ynd.map Sum.inr (fun a b h e => h (Sum.inr.inj e))
        have hH : ∀ b, H2 b = none → H b = none := fun b hb => by
          cases e : H b with
          | none => rfl
          | some o =>
            by_cases hbx : b = x
            · rw [hbx, hx1] at hb
              cases hb
            · rw [old1 b o e hbx] at hb
              cases hb
        refine q G ys kvs' _ (hH G nG) ⟨hk, hperm, hup, fun y hy => ?_⟩ ⟨⟨dx, upd_same⟩, by rw [upd_ne nxG.symm]; exact hG⟩ fun b o e nb => by rw [upd_ne nb]; exact keep b o (old1 b o e nb)
        have hm : (Sum.inr y : Key) ∈ kvs'.map (·.1) := (inr_mem hk _).mpr (hperm.mem_iff.mpr hy)
        obtain ⟨p, hp, e⟩ := List.mem_map.mp hm
        obtain ⟨k', v⟩ := p
        have e' : k' = Sum.inr y := e
        subst e'
        rw [valV_some kn' hp, hv y v hp]
end
/-! ### tables -/
abbrev sTInit : Stmt := inClass sTab 0
abbrev sTgt : Stmt := inClass sTab 2
abbrev sTChk : Stmt := inClass sTab 3
abbrev sLook : Stmt := inClass sTab 5
abbrev sRows : Stmt := inClass sCls 4
abbrev letters : Str := "abcdefghijklmnopqrstuvwxyz"
/-- is_target -/
def isTgt (v : V) : Bool := match v with
  | .str x => decide ((1 : Int) ≤ x.length) && decide ((x.length : Int) ≤ 8) && onlyOf letters x
  | _ => false
def isTgtV (v : V) : Prop := isTgt v = true
def spTgt (K : PySem.W.Frag) : Sp := fun vs H Q _ => ∃ v : V, vs = [v] ∧ TyS K H v ∧ (∀ x, v = .str x → x.length ≤ sizeLine) ∧ Q (.bl (isTgt v)) H
def spAdr (K : PySem.W.Frag) : Sp := fun vs H Q _ => ∃ (x : Str) (w : Int), vs = [.str x, .int w] ∧ TyS K H (.str x) ∧ x.length ≤ sizeLine ∧ Q (.bl (isPfx (.str x) w && decide ((x.length : Int) = w))) H
/-- where a longest prefix leads -/
def leadV (kvs : List (Key × V)) (r : Option Str) : V := match r with
  | none => .non
  | some z => (valV kvs (.inr z)).getD .non
def spLook (K : PySem.W.Frag) (C : Addr) : Sp := fun vs H Q _ => ∃ (x e : Addr) (w : Nat) (xs : List Str) (kvs : List (Key × V)) (y : Str), vs = [.ref x, .str y] ∧ MapAt C H x e w kvs ∧ kvs.map (·.1) = xs.map Sum.inr ∧ isBits y = true ∧ y.length = w ∧ w ≤ 32 ∧
  ∀ r : Option Str, IsLong xs y r → Q (leadV kvs r) H
def spRows (C : Addr) : Sp := fun vs H Q _ => ∃ (x e : Addr) (w : Nat) (kvs : List (Key × V)), vs = [.ref x] ∧ MapAt C H x e w kvs ∧ ∀ d, H d = none → Q (.ref d) (upd H d (.dK kvs))
section
variable {P : Program} {w : World} {K : PySem.W.Frag} {mg : Str → Option Value} {base : Heap}
theorem scTgt : FnScope ["thing"] ["thing"] (defScope sTgt) := ⟨rfl, rfl, rfl, by decide +kernel, rfl, by decide +kernel, by decide +kernel⟩
theorem ok_tgt {f fH : Addr} {fd fdH : FuncData} {k : Nat} {t1 t2 : Tok} (F : Fun K "is_target" "Table.is_target" sTgt f fd) (FH : Fun K "has_only" "has_only" sHas fH fdH) (bH : Binds K fdH ["text", "signs"] []) (gH : mg "has_only" = some (.ref fH))
    (mi : mg "isinstance" = none) (ms : mg "str" = none) (ml : mg "len" = none) (m8 : mg "LONGEST_TARGET" = some (.int 8 t1)) (mL : mg "LETTERS" = some (.str letters t2)) : FnOk P w K mg base CX0 (k + 2) f fd ["thing"] (spTgt K) := by
  have GH : FnOk P w K mg base CX0 (k + 1) fH fdH ["text", "signs"] spHas := ok_has FH
  refine F.ok scTgt (fun vs H Q E h => ?_) (fun cdv A outer s H vs Q E hr h => ?_)
  · obtain ⟨v, rfl, _⟩ := h
    rfl
  · obtain ⟨v, rfl, ⟨t, ty, kt⟩, hl, q⟩ := h
    refine ⟨_, pss_one (ps_ret (pe_and (pe_callB call_isi (by rfl) mi (by decide +kernel) (pa_cons (pv 0) (pa_cons (pe_bltn (v := .ty "str") (by rfl) ms (by decide +kernel) rfl) pa_nil)))
      (pe_and (pe_chain op_le op_le pe_int (pe_callB call_len_str (by rfl) ml PySem.boot_len (pa_cons (pv 0) pa_nil)) (pe_glob (v := .int 8) rfl m8 ⟨_, rfl⟩))
        (pe_one (pe_call GH hr (by rfl) gH FH.kp bH .nil pass0 (pa_cons (pv 0) (pa_cons (pe_glob (v := .str letters) rfl mL ⟨_, rfl⟩) pa_nil))))))), ?_⟩
    refine ⟨v, rfl, v, .ty "str", .type t, .type "str", _, rfl, .ty _, ty, kt, _, rfl, ?_⟩
    cases v with
    | str x =>
      have hx := hl x rfl
      have q' : Q (.bl (decide ((1 : Int) ≤ x.length) && decide ((x.length : Int) ≤ 8) && onlyOf letters x)) H := q
      refine iteT ⟨.str x, rfl, x, rfl, hx, _, _, rfl, rfl, _, rfl, ?_⟩
      by_cases h1 : (1 : Int) ≤ x.length
      · rw [decide_eq_true h1] at q' ⊢
        refine iteT ⟨_, _, rfl, rfl, _, rfl, ?_⟩
        by_cases h2 : (x.length : Int) ≤ 8
        · rw [decide_eq_true h2] at q' ⊢
          exact iteT ⟨.str x, rfl, x, _, rfl, hx, q'⟩
        · rw [decide_eq_false h2] at q' ⊢
          exact iteF q'
      · rw [decide_eq_false h1] at q' ⊢
        exact iteF (by first | exact q' | exact ⟨_, rfl, iteF q'⟩)
    | _ => exact iteF q
theorem scTChk : FnScope ["self", "value"] ["self", "value"] (defScope sTChk) := ⟨rfl, rfl, rfl, by decide +kernel, rfl, by decide +kernel, by decide +kernel⟩
theorem tgt_str {v : V} (h : isTgtV v) : ∃ x, v = .str x ∧ x.length ≤ 8 ∧ 1 ≤ x.length ∧ onlyOf letters x = true := by
  unfold isTgtV isTgt at h
  cases v with
  | str x =>
    dsimp only at h
    rw [Bool.and_eq_true, Bool.and_eq_true, decide_eq_true_iff, decide_eq_true_iff] at h
    exact ⟨x, rfl, by omega, by omega, h.2⟩
  | _ => cases h
theorem ok_tchk {f p g C : Addr} {fd fdT : FuncData} {k : Nat} (F : Fun K "_checked" "Table._checked" sTChk f fd) (T : ClsF K C) (ST : SMeth K C "is_target" p g) (GT : FnOk P w K mg base CX0 k g fdT ["thing"] (spTgt K)) (bT : Binds K fdT ["thing"] []) :
    FnOk P w K mg base CX0 (k + 1) f fd ["self", "value"] (spChk K C isTgtV) := by
  refine F.ok scTChk (fun vs H Q E h => ?_) (fun cdv A outer s H vs Q E hr h => ?_)
  · obtain ⟨x, dx, fs, v, rfl, _⟩ := h
    rfl
  · obtain ⟨x, dx, fs, v, rfl, hx, hfs, hv, q⟩ := h
    refine ⟨_, pss_cons (ps_if (pt_not (pt_val (pe_stat (pv 0) T.cl ST GT hr bT (pa_cons (pv 1) pa_nil)))) (pss_one ps_never) pss_nil) (pss_one (ps_ret (pv 1))), ?_⟩
    obtain ⟨y, rfl, hy, _⟩ := tgt_str hv
    refine ⟨.ref x, rfl, x, dx, fs, rfl, hx, hfs _ (by decide +kernel), .str y, rfl, .str y, rfl, TyS.of (N := fun _ => True) (.str y), fun z e => by rw [← V.str.inj e]; exact big_of (by omega), _, rfl, ?_⟩
    rw [show isTgt (.str y) = true from hv]
    exact iteF ⟨.str y, rfl, q⟩
theorem scTInit : ScS ["self", "width", "rows"] (defScope sTInit) := ⟨rfl, rfl, rfl, by decide +kernel, by decide +kernel, by decide +kernel, by decide +kernel, by decide +kernel, by decide +kernel⟩
/-- __init__ of a table is that of its base -/
theorem ok_tinit {f f2 C D : Addr} {fd fd2 : FuncData} {k : Nat} {file : Str} (F : FunS K file "__init__" "Table.__init__" sTInit f D fd) (G2 : FnOk P w K mg base CX0 k f2 fd2 ["self", "width", "rows"] (spInit K C isTgtV)) (b2 : Binds K fd2 ["self", "width", "rows"] []) (fi : PySem.W.fnIn K f2 = true)
    (ty : PySem.W.typeIn K (.ref f2) = some (.type "function")) (hcd : ∃ cdD, PySem.W.clsIn K D = some cdD) (hsub : PySem.W.mroIn K C (.ref D) = some true) (hm : PySem.W.ks_superIn K C D "__init__" = some (some (.ref f2))) (hop : PySem.W.nsIn K cStatics "thirdparty.any" = some none) (hsu : mg "super" = none)
    (hfile : ((P.main.file : Str) == file) = true) (htop : (P.main.scope.names.lookup ("super" : Str)).isSome = false) : FnOk P w K mg base CX0 (k + 1) f fd ["self", "width", "rows"] (spInit K C isTgtV) := by
  refine ok_super (self := "self") F scTInit ((G2.raw b2 .nil).imp fun vs H Q E h => by rw [List.append_nil]; exact h) fi ty hcd hsub hm hop hsu hfile htop rfl ⟨_, rfl, rfl⟩ rfl (by decide +kernel) (fun _ => ⟨_, rfl⟩) (fun _ => rfl) (fun _ => rfl) (fun _ => rfl) (fun vs H Q E h => ?_) (fun h => h) (fun A cda cc outer s H vs Q hr h => ?_)
  · obtain ⟨x, dx, d, w, xs, kvs, rfl, _⟩ := h
    rfl
  · obtain ⟨x, dx, d, w, xs, kvs, rfl, hx, w1, w32, hd, ok, h64, q⟩ := h
    refine ⟨x, dx, _, _, _, rfl, hx, pa_cons (pv 1) (pa_cons (pv 2) pa_nil), pss_nil, ?_⟩
    exact ⟨.int w, rfl, .ref d, rfl, x, dx, d, w, xs, kvs, rfl, hx, w1, w32, hd, ok, h64, q⟩
theorem scRows : FnScope ["self"] ["self"] (defScope sRows) := ⟨rfl, rfl, rfl, by decide +kernel, rfl, by decide +kernel, by decide +kernel⟩
theorem ok_rows {f C : Addr} {fd : FuncData} {k : Nat} (F : Fun K "rows" "PrefixMap.rows" sRows f fd) (T : ClsF K C) (md : mg "dict" = none) : FnOk P w K mg base CX0 (k + 1) f fd ["self"] (spRows C) := by
  refine F.ok scRows (fun vs H Q E h => ?_) (fun cdv A outer s H vs Q E hr h => ?_)
  · obtain ⟨x, e, w, kvs, rfl, _⟩ := h
    rfl
  · obtain ⟨x, e, w, kvs, rfl, ⟨⟨dx, hx⟩, he⟩, q⟩ := h
    refine ⟨_, pss_one (ps_ret (pe_callTy call_dictD (by rfl) md (by decide +kernel) (pa_cons (pe_fld (pv 0) rfl) pa_nil))), ?_⟩
    exact ⟨.ref x, rfl, x, C, dx, _, _, rfl, hx, T.cl, T.nR, flds_r _ _, e, kvs, rfl, .inl he, q⟩
end
theorem same_free {H H' : Hp} {a : Addr} (s : Same H H') (h : H' a = none) : H a = none := by
  cases e : H a with
  | none => rfl
  | some o =>
    rw [s _ _ e] at h
    cases h
/-! ### _law_lines, _law_lead -/
abbrev used : List V := [.str "a", .str "ab", .str "b", .str "any"]
theorem used_tgt {i : Nat} (h : i < 4) : ∃ x, used[i]? = some (.str x) ∧ isTgtV (.str x) ∧ Sm 100 x := by
  have h4 : i = 0 ∨ i = 1 ∨ i = 2 ∨ i = 3 := by omega
  rcases h4 with rfl | rfl | rfl | rfl
  · exact ⟨"a", rfl, show isTgt (.str "a") = true by decide +kernel, ⟨by decide +kernel, by decide +kernel⟩⟩
  · exact ⟨"ab", rfl, show isTgt (.str "ab") = true by decide +kernel, ⟨by decide +kernel, by decide +kernel⟩⟩
  · exact ⟨"b", rfl, show isTgt (.str "b") = true by decide +kernel, ⟨by decide +kernel, by decide +kernel⟩⟩
  · exact ⟨"any", rfl, show isTgt (.str "any") = true by decide +kernel, ⟨by decide +kernel, by decide +kernel⟩⟩
def spLinesM (vok : V → Prop) : Sp := fun vs H Q _ => ∃ (p c : Addr) (n z most : Nat) (m : List V), vs = [.ref p, .int z, .int most] ∧ Pen H p c n m ∧ n + 1000 ≤ PB ∧ z ≤ 32 ∧ most ≤ 20 ∧
  ∀ (d : Addr) (xs : List Str) (kvs : List (Key × V)) (H' : Hp), But p H H' → H d = none → H' d = some (.dK kvs) → RowsOk z vok xs kvs → xs.length ≤ most → Pen H' p c (n + 200) m → Q (.ref d) H'
/-! ### ascending texts: one order alone -/
def LeS (a b : Str) : Prop := sg a ≤ sg b
theorem leS_trans {a b c : Str} (h : LeS a b) (h' : LeS b c) : LeS a c := List.le_trans h h'
theorem leS_anti {a b : Str} (h : LeS a b) (h' : LeS b a) : a = b := str_ext (List.le_antisymm h h')
theorem rise_pw : ∀ (l : List Str) (p : Str), risingS p l = true → (p :: l).Pairwise LeS
  | [], p, _ => List.pairwise_cons.mpr ⟨fun _ h => absurd h List.not_mem_nil, List.Pairwise.nil⟩
  | x :: r, p, h => by
    have h2 : (!ltCps (sg x) (sg p) && risingS x r) = true := h
    rw [Bool.and_eq_true, ltCps_eq] at h2
    have ih := rise_pw r x h2.2
    have hx : LeS p x := by
      have z : ¬ (sg x < sg p) := by
        have := h2.1
        simpa using this
      exact List.not_lt.mp z
    refine List.pairwise_cons.mpr ⟨fun y hy => ?_, ih⟩
    rcases List.mem_cons.mp hy with rfl | hy
    · exact hx
    · exact leS_trans hx ((List.pairwise_cons.mp ih).1 y hy)
theorem up_pw {l : List Str} (h : sortedS l = true) : l.Pairwise LeS := by
  cases l with
  | nil => exact List.Pairwise.nil
  | cons x r => exact rise_pw r x h
theorem up_uniq {l l' : List Str} (p : l.Perm l') (h : sortedS l = true) (h' : sortedS l' = true) : l = l' :=
  List.Perm.eq_of_pairwise (le := LeS) (fun a b _ _ q q' => leS_anti q q') (up_pw h) (up_pw h') p
theorem kv_ext {k1 k2 : List (Key × V)} (e : k1.map (·.1) = k2.map (·.1)) (nd : (k1.map (·.1)).Nodup) (v : ∀ k ∈ k1.map (·.1), valV k1 k = valV k2 k) : k1 = k2 := by
  have el : k1.length = k2.length := by
    have := congrArg List.length e
    rw [List.length_map, List.length_map] at this
    exact this
  refine List.ext_getElem el fun i h1 h2 => ?_
  have e1 : (k1[i]).1 = (k2[i]).1 := by
    have a1 : (k1.map (·.1))[i]? = some (k1[i]).1 := by rw [List.getElem?_map, List.getElem?_eq_getElem h1]; rfl
    have a2 : (k2.map (·.1))[i]? = some (k2[i]).1 := by rw [List.getElem?_map, List.getElem?_eq_getElem h2]; rfl
    rw [e, a2] at a1
    exact (Option.some.inj a1).symm
  have v1 := valV_some nd (k := (k1[i]).1) (v := (k1[i]).2) (List.getElem_mem h1)
  have v2 := valV_some (e ▸ nd) (k := (k2[i]).1) (v := (k2[i]).2) (List.getElem_mem h2)
  have v3 := v _ (List.mem_map.mpr ⟨_, List.getElem_mem h1, rfl⟩)
  have e2 : (k1[i]).2 = (k2[i]).2 := by
    rw [v1, e1, v2] at v3
    exact Option.some.inj v3
  exact Prod.ext e1 e2
theorem Sorted.uniq {xs ys1 ys2 : List Str} {kvs k1 k2 : List (Key × V)} (nd : xs.Nodup) (h1 : Sorted xs kvs k1 ys1) (h2 : Sorted xs kvs k2 ys2) : k1 = k2 := by
  have e : ys1 = ys2 := up_uniq (h1.perm.trans h2.perm.symm) h1.up h2.up
  refine kv_ext (by rw [h1.keys, h2.keys, e]) ?_ fun k hk => ?_
  · rw [h1.keys]
    exact (h1.perm.nodup_iff.mpr nd).map Sum.inr (fun a b h e => h (Sum.inr.inj e))
  · rw [h1.keys] at hk
    obtain ⟨y, hy, rfl⟩ := List.mem_map.mp hk
    have hx := h1.perm.mem_iff.mp hy
    rw [h1.val y hx, h2.val y hx]
/-! ### how tables show -/
theorem tgt_sm {v : V} (h : isTgtV v) : ∃ x, v = .str x ∧ Sm 8 x := by
  obtain ⟨x, rfl, h8, _, hx⟩ := tgt_str h
  refine ⟨x, rfl, h8, fun c hc => ?_⟩
  have h1 := List.all_eq_true.mp hx c hc
  have all : letters.cps.toList.all (fun c => decide (c < 128)) = true := by decide +kernel
  exact of_decide_eq_true (List.all_eq_true.mp all c (Array.mem_toList_iff.mpr (Array.contains_iff.mp h1)))
theorem dr_rows {K : PySem.W.Frag} {H : Hp} {N : Addr → Prop} : ∀ (kvs : List (Key × V)), (∀ kv ∈ kvs, (∃ y, kv.1 = .inr y ∧ Sm 32 y) ∧ isTgtV kv.2) → ∃ ds, DrKv K H N kvs ds ∧ ds.length = kvs.length ∧ ∀ d ∈ ds, OkD 0 322 d.1 ∧ OkD 0 82 d.2
  | [], _ => ⟨[], .nil, rfl, fun _ h => absurd h List.not_mem_nil⟩
  | (k, v) :: r, h => by
    obtain ⟨⟨y, e, sy⟩, hv⟩ := h (k, v) List.mem_cons_self
    have e' : k = .inr y := e
    subst e'
    obtain ⟨x, ex, sx⟩ := tgt_sm hv
    have ex' : v = .str x := ex
    subst ex'
    obtain ⟨ds, h1, h2, h3⟩ := dr_rows r fun kv hk => h kv (List.mem_cons_of_mem _ hk)
    refine ⟨(.str y, .str x) :: ds, .cons (k := .inr y) (.str x) h1, by rw [List.length_cons, List.length_cons, h2], fun d hd => ?_⟩
    rcases List.mem_cons.mp hd with rfl | hd
    · exact ⟨sy.ok (by decide), sx.ok (by decide)⟩
    · exact h3 d hd
abbrev sMade : Stmt := inClass sCls 1
abbrev sWith : Stmt := inClass sCls 9
/-- a new map of this class with these rows -/
def Made (C : Addr) (w : Nat) (xs : List Str) (kvs : List (Key × V)) (H : Hp) (Q : VK) : Prop := ∀ (x e : Addr) (ys : List Str) (kvs' : List (Key × V)) (H' : Hp), H x = none → Same H H' → Sorted xs kvs kvs' ys → MapAt C H' x e w kvs' → Q (.ref x) H'
def spMade (C : Addr) (vok : V → Prop) : Sp := fun vs H Q _ => ∃ (d : Addr) (w : Nat) (xs : List Str) (kvs : List (Key × V)), vs = [.ref C, .int w, .ref d] ∧ 1 ≤ w ∧ w ≤ 32 ∧ H d = some (.dK kvs) ∧ RowsOk w vok xs kvs ∧ xs.length < 64 ∧ Made C w xs kvs H Q
/-- a map with one row more, or replaced -/
def spWith (C : Addr) (vok : V → Prop) : Sp := fun vs H Q _ => ∃ (x e : Addr) (w : Nat) (xs : List Str) (kvs : List (Key × V)) (y : Str) (v : V), vs = [.ref x, .str y, v] ∧ MapAt C H x e w kvs ∧ RowsOk w vok xs kvs ∧ 1 ≤ w ∧ w ≤ 32 ∧ isBits y = true ∧ y.length ≤ w ∧ vok v ∧ xs.length < 60 ∧
  ∀ xs2, RowsOk w vok xs2 (putK kvs (.inr y) v) → (∀ z, z ∈ xs2 ↔ z = y ∨ z ∈ xs) → xs2.length ≤ xs.length + 1 → Made C w xs2 (putK kvs (.inr y) v) H Q
theorem Made.later {C : Addr} {w : Nat} {xs : List Str} {kvs : List (Key × V)} {H H1 : Hp} {Q : VK} (s : Same H H1) (h : Made C w xs kvs H Q) : Made C w xs kvs H1 Q := fun x e ys kvs' H' nx s' hs hm => h x e ys kvs' H' (same_free s nx) (s.trans s') hs hm
theorem keys_put {kvs : List (Key × V)} {k0 : Key} {v : V} (k : Key) : k ∈ (putK kvs k0 v).map (·.1) ↔ k = k0 ∨ k ∈ kvs.map (·.1) := by
  by_cases hm : k0 ∈ kvs.map (·.1)
  · have e : (putK kvs k0 v).map (·.1) = kvs.map (·.1) := by
      unfold putK
      rw [if_pos (by obtain ⟨p, hp, e⟩ := List.mem_map.mp hm; exact List.any_eq_true.mpr ⟨p, hp, decide_eq_true e⟩), List.map_map]
      refine List.map_congr_left fun p _ => ?_
      show (if p.1 = k0 then (p.1, v) else p).1 = p.1
      split <;> rfl
    rw [e]
    exact ⟨.inr, fun h => h.elim (fun q => q ▸ hm) id⟩
  · rw [putK_end hm, List.map_append, List.mem_append]
    exact ⟨fun h => h.elim .inr fun q => .inl (List.mem_singleton.mp q), fun h => h.elim (fun q => .inr (List.mem_singleton.mpr q)) .inl⟩
theorem RowsOk.acc {w : Nat} {vok : V → Prop} {xs : List Str} {kvs : List (Key × V)} (h : RowsOk w vok xs kvs) : RowsAcc w vok kvs := by
  refine ⟨by rw [h.keys]; exact h.pfx.nd.map Sum.inr (fun a b h e => h (Sum.inr.inj e)), fun kv hk => ?_⟩
  have hkey : kv.1 ∈ xs.map Sum.inr := by
    rw [← h.keys]
    exact List.mem_map.mpr ⟨kv, hk, rfl⟩
  obtain ⟨y, hy, ey⟩ := List.mem_map.mp hkey
  exact ⟨y, ey.symm, h.pfx.bits y hy, h.pfx.len y hy, h.val kv hk⟩
theorem RowsOk.put {w : Nat} {vok : V → Prop} {xs : List Str} {kvs : List (Key × V)} (h : RowsOk w vok xs kvs) {y : Str} {v : V} (hb : isBits y = true) (hl : y.length ≤ w) (hv : vok v) :
    ∃ xs2, RowsOk w vok xs2 (putK kvs (.inr y) v) ∧ (∀ z, z ∈ xs2 ↔ z = y ∨ z ∈ xs) ∧ xs2.length ≤ xs.length + 1 := by
  obtain ⟨xs2, ok2, l2⟩ := (h.acc.put hb hl hv).ok
  refine ⟨xs2, ok2, fun z => ?_, ?_⟩
  · rw [← inr_mem ok2.keys z, keys_put, inr_mem h.keys z]
    exact ⟨fun q => q.imp Sum.inr.inj id, fun q => q.imp (congrArg Sum.inr) id⟩
  · have a := length_putK kvs (.inr y) v
    have b : kvs.length = xs.length := by
      have := congrArg List.length h.keys
      rw [List.length_map, List.length_map] at this
      exact this
    omega
section
variable {P : Program} {w : World} {K : PySem.W.Frag} {mg : Str → Option Value} {base : Heap}
end
/-! ### == and != of maps -/
abbrev sEq : Stmt := inClass sCls 6
/-- __eq__ of two maps of one class with the same rows -/
def spEqM (C : Addr) : Sp := fun vs H Q _ => ∃ (x y e e2 : Addr) (w : Nat) (kvs : List (Key × V)), vs = [.ref x, .ref y] ∧ MapAt C H x e w kvs ∧ MapAt C H y e2 w kvs ∧ (kvs.map (·.1)).Nodup ∧ (∀ kv ∈ kvs, flatB kv.2 = true) ∧ Q (.bl true) H
/-- what isinstance and != ask of a class of one's own -/
structure ObjC (K : PySem.W.Frag) (C : Addr) : Prop where
  ca : PySem.W.findIn K (.ref C) "__class__" = some (some (.builtin "object.__class__"))
  cg : PySem.W.specialIn K (.builtin "object.__class__") "__get__" = some (some (.builtin "getset_descriptor.__get__"))
  ct : PySem.W.takesIn K (.builtin "object.__class__") = some true
  ob : PySem.W.mroIn K C (.type "object") = some true
  ne : PySem.W.findIn K (.ref C) "__ne__" = some (some (.builtin "object.__ne__"))
section
variable {P : Program} {w : World} {K : PySem.W.Frag} {mg : Str → Option Value} {base : Heap}
theorem scEq : FnScope ["self", "other"] ["self", "other"] (defScope sEq) := ⟨rfl, rfl, rfl, by decide +kernel, rfl, by decide +kernel, by decide +kernel⟩
theorem ok_eqm {f C D : Addr} {fd : FuncData} {k : Nat} (F : Fun K "__eq__" "PrefixMap.__eq__" sEq f fd) (T : ClsF K C) (mi : mg "isinstance" = none) (mt : mg "type" = none) (mD : mg "PrefixMap" = some (.ref D)) (hk : PySem.W.kitOne K (.ref C) (.ref D) = some true) (hmk : PySem.W.makesIn K C = true) (OC : ObjC K C) :
    FnOk P w K mg base CX0 (k + 1) f fd ["self", "other"] (spEqM C) := by
  refine F.ok scEq (fun vs H Q E h => ?_) (fun cdv A outer s H vs Q E hr h => ?_)
  · obtain ⟨x, y, e, e2, w, kvs, rfl, _⟩ := h
    rfl
  · obtain ⟨x, y, e, e2, w, kvs, rfl, ⟨⟨dx, hx⟩, he⟩, ⟨⟨dy, hy⟩, he2⟩, nd, fl, q⟩ := h
    have hu := hu_of hr
    refine ⟨_, pss_cons (ps_if (pt_not (pt_val (pe_callB call_isi (by rfl) mi (by decide +kernel) (pa_cons (pv 1) (pa_cons (pe_glob (v := .ref D) rfl mD rfl) pa_nil))))) (pss_one (ps_ret pe_bl)) pss_nil)
      (pss_one (ps_ret (pe_and (pe_cmpR op_is_cls (pe_callTy cr_type (by rfl) mt (by decide +kernel) (pa_cons (pv 0) pa_nil)) (pe_callTy cr_type (by rfl) mt (by decide +kernel) (pa_cons (pv 1) pa_nil)) (nomark _))
        (pe_and (pe_cmpR op_eq (pe_fld (pv 0) rfl) (pe_fld (pv 1) rfl) (nomark _)) (pe_one (pe_cmpR (op_eq_dictA (Nat.lt_of_succ_lt hu)) (pe_fld (pv 0) rfl) (pe_fld (pv 1) rfl) (nomark _))))))), ?_⟩
    refine ⟨.ref y, rfl, .ref y, .ref D, .ref C, .ref D, _, rfl, .own _, .base (.ins hy T.cl OC.ca OC.cg OC.ct OC.ob), hk, _, rfl, iteF ?_⟩
    refine ⟨.ref x, rfl, x, C, dx, _, rfl, hx, .ref y, rfl, y, C, dy, _, rfl, hy, C, C, rfl, rfl, .inl rfl, _, rfl, ?_⟩
    rw [decide_eq_true rfl]
    refine iteT ⟨.ref x, rfl, x, C, dx, _, _, rfl, hx, T.cl, T.nW, flds_w _ _, .ref y, rfl, y, C, dy, _, _, rfl, hy, T.cl, T.nW, flds_w _ _, rfl, _, rfl, ?_⟩
    rw [decide_eq_true rfl]
    refine iteT ⟨.ref x, rfl, x, C, dx, _, _, rfl, hx, T.cl, T.nR, flds_r _ _, .ref y, rfl, y, C, dy, _, _, rfl, hy, T.cl, T.nR, flds_r _ _, e, e2, kvs, kvs, rfl, rfl, he, he2, rfl, fun p hp => ⟨valV_some nd (k := p.1) (v := p.2) hp, fl p hp⟩, q⟩
end
section
open PySem.W
variable {M : Model} {P : Program} {w : World} {K : Frag} {A : Around} {E : Value → Shared → Prop} {s : Shared} {x C : Addr} {ox : Obj} {od : Option Obj}
/-- a special method that is a built-in's -/
theorem special_b {name : Str} {id : String} {args : List Value} {Z : Option Value → Shared → Prop} (X : K.In s.heap) (J : InstAt s.heap x ox C od) (hs : findIn K (.ref C) name = some (some (.builtin id))) (S : Slot "object" name id)
    (h : wpAny M A (call (.builtin id) (.ref x :: args)) (fun v => Z (some v)) E s) : wpAny M A (callSpecialIfBound? (.ref x) name args) Z E s := by
  simp only [callSpecialIfBound?, bindSpecialIfBound?]
  refine wpAny_holding (wpAny_bind (wpAny_bind (wpAny_bind (J.type.here ((looks_findIn X hs).here ?_)))))
  simp only [S.bind]
  refine wpAny_bind (wpAny_askSetting (wpAny_ite ?_))
  have done : wpAny M A (call (.builtin id) ([.ref x] ++ args) >>= fun v => pure (some v)) Z E s := wpAny_bind (thn h fun v s' q => wpAny_pure q)
  split
  · exact wpAny_bind (wpAny_pure (wpAny_pure done))
  · exact wpAny_tryCatch (wpAny_bind (wpAny_pure (wpAny_pure done)))
theorem ne_inst {y f : Addr} {oy : Obj} {od' : Option Obj} {Z : Value → Shared → Prop} (X : K.In s.heap) (OC : Kt.ObjC K C) (J : InstAt s.heap x ox C od) (J' : InstAt s.heap y oy C od') (hu : A.units + 1 < cLine) (he : findIn K (.ref C) "__eq__" = some (some (.ref f))) (hf : isFn K (.ref f) = true)
    (h : wpAny (model P w) A.in1 (call (.ref f) [.ref x, .ref y]) (fun v s' => ∃ b, v = .bool b ∧ Z (.bool (!b)) s') E s) : wpAny (model P w) A (richCompare .NotEq (.ref x) (.ref y)) Z E s := by
  have S := PySem.F.cmp_object.ne
  unfold richCompare
  simp only [oneThing_ref]
  refine wpAny_holding (wpAny_bind (wpAny_cRoomFor (Nat.lt_of_succ_lt hu) ?_))
  rw [cmpInfo_NotEq]
  dsimp only
  refine wpAny_bind (J.type.here (wpAny_bind (J'.type.here ?_)))
  simp only [bne_self_eq_false, Bool.false_eq_true, if_false]
  refine wpAny_bind (wpAny_pure ?_)
  simp only [Bool.false_eq_true, if_false]
  refine wpAny_bind ?_
  unfold tryCompare
  have sub : Looks (model P w) s.heap (isInstance (.ref x) (.type "object")) true := J.type.andThen (looks_mroIn X OC.ob)
  refine wpAny_bind (special_b X J OC.ne S (wpAny_call (codeAny_call_builtin S.plain PySem.F.cmpEntry_ne (check_slot PySem.F.cmpKind_ne PySem.F.cmpSplit_ne sub (PySem.F.cmpArgs_ne _ _) ?_))))
  unfold Builtin.«object.__ne__»
  refine wpAny_bind (m := slotArgs "__ne__" 1 _) (wpAny_pure ?_)
  refine wpAny_bind (wpAny_cRoomFor hu ?_)
  refine wpAny_bind (ifBound_K X J he hf (thn h fun v s' q => ?_))
  obtain ⟨b, rfl, q⟩ := q
  refine wpAny_bind (m := truthy (.bool b)) (wpAny_truthy_bool ?_)
  exact wpAny_pure (wpAny_pure (wpAny_pure q))
end
/-- a != b, two instances of a class whose own == promises -/
def rNeI (C : Addr) (sp : Sp) : R2 := fun x y H Q => ∃ a b dx dy fs gs, x = .ref a ∧ y = .ref b ∧ H a = some (.ins C dx fs) ∧ H b = some (.ins C dy gs) ∧ sp [.ref a, .ref b] H (fun v H' => ∃ k, v = .bl k ∧ Q (.bl (!k)) H') E0
theorem op_neI {X : Cx} {C f : Addr} {fd : FuncData} {k : Nat} {ps : List Str} {sp : Sp} (F : FnOk X.prog X.w X.K X.mg X.base CX0 k f fd ps sp) (hr : Room (k + 1) X.A) (OC : ObjC X.K C) (he : PySem.W.findIn X.K (.ref C) "__eq__" = some (some (.ref f))) (hf : PySem.W.isFn X.K (.ref f) = true) (hb : Binds X.K fd ps []) :
    OpR X (compareOp .NotEq) (rNeI C sp) := by
  intro pins s σ H x y v u Q I rx ry h
  obtain ⟨a, b, dx, dy, fs, gs, rfl, rfl, ha, hb', q⟩ := h
  cases rx
  cases ry
  obtain ⟨_, O1, _⟩ := ins_get I.hok ha
  obtain ⟨_, O2, _⟩ := ins_get I.hok hb'
  obtain ⟨_, J1, _⟩ := O1.look
  obtain ⟨_, J2, _⟩ := O2.look
  have hl := F.len _ _ _ _ q
  show wpAny (model X.prog X.w) X.A (richCompare .NotEq (.ref a) (.ref b)) (EP X pins σ Q) X.xe s
  refine ne_inst I.kIn OC J1 J2 (by have := hr.units; omega) he hf (wpAny_call (codeAny_mono (F.run X.A.in1 X.stack s H ⟨[.ref a, .ref b], []⟩ [.ref a, .ref b] [.ref a, .ref b] _ _ hr.in1 I.env0.in1 (by
    have z := hb s [.ref a, .ref b] I.kIn (by simpa using hl)
    simpa using z) (.cons rfl (.cons rfl .nil)) q) fun res s' hq => ?_))
  match res, hq with
  | .ok (.ret r), hq =>
    obtain ⟨z, H', I', rz, k, ez, q'⟩ := I.after hq
    subst ez
    obtain rfl : r = Value.bool k := rz
    exact ⟨k, rfl, .bl (!k), H', I', rfl, q'⟩
theorem kit_own {K : PySem.W.Frag} {C D : Addr} (h1 : PySem.W.isClsIn K D = true) (h2 : PySem.W.typeIn K (.ref D) = some (.type "type")) (h3 : PySem.W.mroIn K C (.ref D) = some true) : PySem.W.kitOne K (.ref C) (.ref D) = some true := by
  unfold PySem.W.kitOne
  split
  · rfl
  · show (if ((PySem.W.clsIn K D).isSome && PySem.W.typeIn K (.ref D) == some (.type "type")) = true then PySem.W.mroIn K C (.ref D) else none) = some true
    rw [if_pos (by rw [show (PySem.W.clsIn K D).isSome = true from h1, h2]; exact beq_self_eq_true _)]
    exact h3
section
open PySem.W
variable {M : Model} {P : Program} {w : World} {K : Frag} {A : Around} {E : Value → Shared → Prop} {s : Shared} {x C : Addr} {ox : Obj} {od : Option Obj}
theorem eq_inst {y f : Addr} {oy : Obj} {od' : Option Obj} {Z : Value → Shared → Prop} (X : K.In s.heap) (J : InstAt s.heap x ox C od) (J' : InstAt s.heap y oy C od') (hu : A.units < cLine) (he : findIn K (.ref C) "__eq__" = some (some (.ref f))) (hf : isFn K (.ref f) = true)
    (h : wpAny (model P w) A (call (.ref f) [.ref x, .ref y]) (fun v s' => ∃ b, v = .bool b ∧ Z (.bool b) s') E s) : wpAny (model P w) A (richCompare .Eq (.ref x) (.ref y)) Z E s := by
  unfold richCompare
  simp only [oneThing_ref]
  refine wpAny_holding (wpAny_bind (wpAny_cRoomFor hu ?_))
  rw [cmpInfo_Eq]
  dsimp only
  refine wpAny_bind (J.type.here (wpAny_bind (J'.type.here ?_)))
  simp only [bne_self_eq_false, Bool.false_eq_true, if_false]
  refine wpAny_bind (wpAny_pure ?_)
  simp only [Bool.false_eq_true, if_false]
  refine wpAny_bind ?_
  unfold tryCompare
  refine wpAny_bind (ifBound_K X J he hf (thn h fun v s' q => ?_))
  obtain ⟨b, rfl, q⟩ := q
  exact wpAny_pure (wpAny_pure q)
end
/-- a == b, two instances of a class whose own == promises -/
def rEqI (C : Addr) (sp : Sp) : R2 := fun x y H Q => ∃ a b dx dy fs gs, x = .ref a ∧ y = .ref b ∧ H a = some (.ins C dx fs) ∧ H b = some (.ins C dy gs) ∧ sp [.ref a, .ref b] H (fun v H' => ∃ k, v = .bl k ∧ Q (.bl k) H') E0
theorem op_eqI {X : Cx} {C f : Addr} {fd : FuncData} {k : Nat} {ps : List Str} {sp : Sp} (F : FnOk X.prog X.w X.K X.mg X.base CX0 k f fd ps sp) (hr : Room k X.A) (he : PySem.W.findIn X.K (.ref C) "__eq__" = some (some (.ref f))) (hf : PySem.W.isFn X.K (.ref f) = true) (hb : Binds X.K fd ps []) :
    OpR X (compareOp .Eq) (rEqI C sp) := by
  intro pins s σ H x y v u Q I rx ry h
  obtain ⟨a, b, dx, dy, fs, gs, rfl, rfl, ha, hb', q⟩ := h
  cases rx
  cases ry
  obtain ⟨_, O1, _⟩ := ins_get I.hok ha
  obtain ⟨_, O2, _⟩ := ins_get I.hok hb'
  obtain ⟨_, J1, _⟩ := O1.look
  obtain ⟨_, J2, _⟩ := O2.look
  show wpAny (model X.prog X.w) X.A (richCompare .Eq (.ref a) (.ref b)) (EP X pins σ Q) X.xe s
  refine eq_inst I.kIn J1 J2 (by have := hr.units; omega) he hf (wpAny_mono (run_fn (us := [.ref a, .ref b]) (vs := [V.ref a, V.ref b]) (dvs := []) (ds := []) (Q := fun v H' => ∃ k, v = .bl k ∧ Q (.bl k) H') F hr hb .nil pass0 I (.cons rfl (.cons rfl .nil)) q) (fun r s' hq => ?_) fun _ _ z => z)
  obtain ⟨z, H', I', rz, k, ez, q'⟩ := hq
  subst ez
  obtain rfl : r = Value.bool k := rz
  exact ⟨k, rfl, .bl k, H', I', rfl, q'⟩
/-! ### the rows put into ascending order, one by one -/
structure KeptAt (kvs : List (Key × V)) (ys : List Str) (i : Nat) (kvs' : List (Key × V)) : Prop where
  keys : kvs'.map (·.1) = (ys.take i).map Sum.inr
  val : ∀ y v, (Sum.inr y, v) ∈ kvs' → valV kvs (.inr y) = some v
theorem KeptAt.nil {kvs : List (Key × V)} {ys : List Str} : KeptAt kvs ys 0 [] := ⟨rfl, fun _ _ h => (List.not_mem_nil h).elim⟩
theorem KeptAt.len {kvs kvs' : List (Key × V)} {ys : List Str} {i : Nat} (h : KeptAt kvs ys i kvs') : kvs'.length ≤ ys.length := by
  have : kvs'.length = ((ys.take i).map Sum.inr : List Key).length := by rw [← h.keys, List.length_map]
  rw [List.length_map, List.length_take] at this
  omega
theorem KeptAt.new {kvs kvs' : List (Key × V)} {ys : List Str} {i : Nat} (h : KeptAt kvs ys i kvs') (nd : ys.Nodup) (hi : i < ys.length) : (Sum.inr ys[i] : Key) ∉ kvs'.map (·.1) := by
  rw [h.keys, List.mem_map]
  rintro ⟨z, hz, e⟩
  obtain ⟨j, hj, ej⟩ := List.mem_take_iff_getElem.mp hz
  have e2 : ys[j]'(by omega) = ys[i] := by rw [ej]; exact Sum.inr.inj e
  have := (List.getElem_inj nd).mp e2
  omega
theorem KeptAt.snoc {kvs kvs' : List (Key × V)} {ys : List Str} {i : Nat} {v : V} (h : KeptAt kvs ys i kvs') (hi : i < ys.length) (hv : valV kvs (.inr ys[i]) = some v) : KeptAt kvs ys (i + 1) (kvs' ++ [(.inr ys[i], v)]) := by
  refine ⟨?_, fun y v' hm => ?_⟩
  · rw [List.map_append, h.keys, List.take_add_one, List.getElem?_eq_getElem hi, List.map_append]
    rfl
  · rcases List.mem_append.mp hm with hm | hm
    · exact h.val y v' hm
    · cases List.mem_singleton.mp hm
      exact hv
theorem KeptAt.put {kvs kvs' : List (Key × V)} {ys : List Str} {i : Nat} {v : V} (h : KeptAt kvs ys i kvs') (nd : ys.Nodup) (hi : i < ys.length) (hv : valV kvs (.inr ys[i]) = some v) : KeptAt kvs ys (i + 1) (putK kvs' (.inr ys[i]) v) := by
  rw [putK_end (h.new nd hi)]
  exact h.snoc hi hv
theorem KeptAt.done {kvs kvs' : List (Key × V)} {xs ys : List Str} {n : Nat} (h : KeptAt kvs ys n kvs') (hn : ys.length ≤ n) (perm : ys.Perm xs) (nd : xs.Nodup) (up : sortedS ys = true) : Sorted xs kvs kvs' ys := by
  have hk : kvs'.map (·.1) = ys.map Sum.inr := by rw [h.keys, List.take_of_length_le hn]
  have kn' : (kvs'.map (·.1)).Nodup := by
    rw [hk]
    exact (perm.nodup_iff.mpr nd).map Sum.inr (fun a b h e => h (Sum.inr.inj e))
  refine ⟨hk, perm, up, fun y hy => ?_⟩
  have hm : (Sum.inr y : Key) ∈ kvs'.map (·.1) := (inr_mem hk _).mpr (perm.mem_iff.mpr hy)
  obtain ⟨p, hp, e⟩ := List.mem_map.mp hm
  obtain ⟨k', v⟩ := p
  have e' : k' = Sum.inr y := e
  subst e'
  rw [valV_some kn' hp, h.val y v hp]
/-- the value of a row that is there -/
theorem val_at {kvs : List (Key × V)} {xs : List Str} (hk : kvs.map (·.1) = xs.map Sum.inr) {y : Str} (hy : y ∈ xs) : ∃ v, valV kvs (.inr y) = some v ∧ (Sum.inr y, v) ∈ kvs := by
  have hkm : (Sum.inr y : Key) ∈ kvs.map (·.1) := (inr_mem hk _).mpr hy
  obtain ⟨v, hval⟩ := Option.isSome_iff_exists.mp (valV_mem.mpr hkm)
  refine ⟨v, hval, ?_⟩
  unfold valV at hval
  obtain ⟨p, hp, e⟩ := Option.map_eq_some_iff.mp hval
  have h1 := List.mem_of_find?_eq_some hp
  have h2 : p.1 = Sum.inr y := by
    have z := List.find?_some hp
    exact of_decide_eq_true z
  rw [← h2, ← e]
  exact h1
theorem upd_free2 {H : Hp} {a b e : Addr} {o u : HO} (h : upd (upd H a o) b u e = none) : e ≠ b ∧ e ≠ a ∧ H e = none := by
  obtain ⟨h1, h2⟩ := upd_free h
  obtain ⟨h3, h4⟩ := upd_free h2
  exact ⟨h1, h3, h4⟩
/-! ### C.m(..), m a staticmethod of the class C -/
structure CSta (K : PySem.W.Frag) (C : Addr) (mc : Value) (m : Str) (p g : Addr) : Prop where
  at_ : PySem.W.findCls K (.ref C) mc m = some (.get (.builtin "staticmethod.__get__") (.ref p) .none (.ref C))
  rc : ∃ rest, PySem.W.recIn K p "staticmethod" = some (.ref g :: rest)
  kp : PySem.W.keepIn K (.ref g) = true
def tCStat (C : Addr) (sp : Sp) (ta : TE) (t : TA) : TE := fun σ H Q => ta σ H fun x H1 => x = .ref C ∧ t σ H1 fun ws H2 => sp ws H2 Q E0
section
variable {X : Cx} {k : Nat} {C p g f : Addr} {mc : Value} {sp : Sp} {o e : Expr} {es : List Expr} {m : Str} {pos apos : Pos} {ta : TE} {t : TA} {fd : FuncData} {ps : List Str}
theorem pe_cstat {pl : Sem Bool} (he : PE X o ta) (r : ClX.CRead X.K C mc) (c : CSta X.K C mc m p g) (F : FnOk X.prog X.w X.K X.mg X.base CX0 k g fd ps sp) (hr : Room k X.A) (hb : Binds X.K fd ps []) (ha : PA X (e :: es) t)
    (hst : starEach (e :: es) X.env = (false, eval e X.env) :: starEach es X.env := by rfl) (hpl : (backTo pos (starEach es X.env)).any (·.1) = false := by rfl)
    (ht : eval (.Call (.Attribute o m apos) (e :: es) [] pos) X.env = (eval o X.env >>= fun ov => standAt apos.atName >>= fun _ => holding [ov] (getMethod ov m pl) >>= fun q => callWith pos q.1 q.2 (backTo pos (starEach (e :: es) X.env)) (backToKw pos (keywordEach [] X.env))) := by rfl) :
    PE X (.Call (.Attribute o m apos) (e :: es) [] pos) (tCStat C sp ta t) := by
  refine ⟨fun pins s σ H Q I h => ?_⟩
  refine PySem.W.methodCall_KW (pl := pl) (thn (he.run pins s σ H _ I h) fun u s1 ⟨x, H1, I1, rx, ex, q⟩ => ?_) ht
  subst ex
  obtain rfl : u = Value.ref C := rx
  obtain ⟨rest, hrec⟩ := c.rc
  refine PySem.W.method_cls I1.kIn r.ga (PySem.W.cls_bind I1.kIn r.rd c.at_ ?_)
  refine wpAny_call (PySem.W.sm_get (s := { s1 with toks := s1.toks + 1 }) I1.kIn hrec (PySem.W.handed_on (by rfl) ?_))
  have I2 := I1.tok (s1.toks + 1)
  refine PySem.W.callWith_K (first := []) (h₀ := X.base) I2.ok.mod.kin c.kp (thn (ha.run pos pins _ σ H1 _ I2 q) fun us s2 ⟨vs, H2, I3, r, q2⟩ => ⟨I3.kIn, ?_⟩) hst hpl
  exact run_fn F hr hb .nil pass0 I3 r (by rw [List.append_nil]; exact q2)
end
/-! ### sets of texts -/
abbrev NK : Type := Option Key
/-- what an entry of a set's table holds: None, an int or a text -/
def nxV : Value → NK
  | .str k _ => some (.inr k)
  | .int i _ => some (.inl i)
  | _ => none
def nxOf (e : Int × Value) : NK := nxV e.2
def hashN (w : World) : NK → Int
  | none => reduceHash 0xFCA86420
  | some k => keyH w k
theorem nx_val {k : NK} {v : Value} (h : nkIs k v = true) : nxV v = k ∧ v.scannable = true := by
  cases k with
  | none =>
    have e := nk_none h
    subst e
    exact ⟨rfl, rfl⟩
  | some k =>
    rcases keyIs_shape (show keyIs k v = true from h) with ⟨i, t, rfl, rfl⟩ | ⟨x, t, rfl, rfl⟩
    · exact ⟨rfl, rfl⟩
    · exact ⟨rfl, rfl⟩
/-- an entry is such a value with its own hash -/
def NxE (w : World) (e : Int × Value) : Prop := ∃ k, nkIs k e.2 = true ∧ e.1 = hashN w k
theorem hashN_is (P : Program) (w : World) (k : NK) : (noneKind P w).hash k = hashN w k := by cases k <;> rfl
/-- the table of a set whose members are ks -/
structure NxT (w : World) (es : Array (Int × Value)) (t : SetTable) (ks : List NK) : Prop where
  ent : ∀ e ∈ es.toList, NxE w e
  mem : (es.toList.map nxOf).Perm ks
  nd : ks.Nodup
  few : es.size < scanBound
  fit : t.fits es.size = true
  ris : Ris t.place.toList
  led : w.params.followText "set-order" = true ∨ t.led = true
/-- at a the set of the texts ks -/
def NxS (w : World) (h : Heap) (a : Addr) (ks : List NK) : Prop := ∃ (o : Obj) (es : Array (Int × Value)) (ep : Nat) (t : SetTable), h.get? a = some o ∧ o.ExactSet ∧ o.data = .set es ep t ∧ NxT w es t ks
theorem NxS.keep {w : World} {h h' : Heap} {a : Addr} {ks : List NK} (R : NxS w h a ks) (k : ∀ o, h.get? a = some o → h'.get? a = some o) : NxS w h' a ks :=
  let ⟨o, es, ep, t, ho, r⟩ := R
  ⟨o, es, ep, t, k o ho, r⟩
theorem nx_is {P : Program} {w : World} {e : Int × Value} (g : NxE w e) (k : NK) : (noneKind P w).is k e.2 = true ↔ nxOf e = k := by
  obtain ⟨k0, h1, _⟩ := g
  have z : nxOf e = k0 := (nx_val h1).1
  rw [z]
  constructor
  · intro q
    exact (noneKind P w).inj _ _ _ h1 q
  · rintro rfl
    exact h1
section
variable {P : Program} {w : World} {A : Around} {E : Value → Shared → Prop} {s : Shared} {a : Addr}
theorem NxT.elems {es : Array (Int × Value)} {t : SetTable} {ks : List NK} (T : NxT w es t ks) : ElemsOf (noneKind P w) es.toList := fun e he => by
  obtain ⟨k, h1, h2⟩ := T.ent e he
  exact ⟨⟨k, h1, by rw [h2, hashN_is]⟩, (nx_val h1).2⟩
theorem NxT.relaid {es es' : Array (Int × Value)} {t t' : SetTable} {ks : List NK} (T : NxT w es t ks) (p : es'.toList.Perm es.toList) (hf : t'.fits es'.size = true) (hr : Ris t'.place.toList) (hl : t'.led = t.led) : NxT w es' t' ks := by
  have n : es'.size = es.size := by
    rw [← Array.length_toList, ← Array.length_toList]
    exact p.length_eq
  exact ⟨fun e he => T.ent e (p.mem_iff.mp he), (p.map nxOf).trans T.mem, T.nd, n ▸ T.few, hf, hr, by rw [hl]; exact T.led⟩
theorem nx_store {h : Heap} {o : Obj} {es es' : Array (Int × Value)} {ep : Nat} {t t' : SetTable} (ho : h.get? a = some o) (hd : o.data = .set es ep t) : (h.update a (Obj.putSet es' t')).get? a = some { o with data := .set es' (ep + 1) t' } :=
  L2.store_at ho hd
theorem nx_tail {g : Bool → Sem Unit} (free : ∀ (b : Bool) (r : Shared) (Z : Unit → Shared → Prop), Z () r → wpAny (model P w) A (g b) Z E r) {o : Obj} {es es1 : Array (Int × Value)} {ep : Nat} {t t2 : SetTable} {ks : List NK} (ho : s.heap.get? a = some o) (hx : o.ExactSet)
    (hd : o.data = .set es ep t) (T : NxT w es1 t2 ks) {wd : Bool} {Z : Option Bool → Shared → Prop} (hZ : ∀ h', Heap.SameBut a s.heap h' → NxS w h' a ks → Z (some true) { s with heap := h' }) :
    wpAny (model P w) A (storeSet a es1 t2 >>= fun _ => if (!wd && t2.tooFull) = true then g (relayAll t2 es1 (SetTable.grown es1.size)).2.2 >>= fun _ => storeSet a (relayAll t2 es1 (SetTable.grown es1.size)).1 (relayAll t2 es1 (SetTable.grown es1.size)).2.1 >>= fun _ => pure (some true) else pure (some true)) Z E s := by
  refine wpAny_bind (wpAny_storeSet_of ho hd ?_ (fits_of_scanBound T.few))
  have o1 := nx_store (es' := es1) (t' := t2) ho hd
  have b1 := Heap.SameBut.update s.heap a (Obj.putSet es1 t2)
  split
  · have T2 := T.relaid (relayAll_perm t2 es1 (SetTable.grown es1.size)) (relayAll_fits t2 es1 _) (L2.relayAll_ris t2 es1 _) (L2.relayAll_led t2 es1 _)
    revert T2
    generalize relayAll t2 es1 (SetTable.grown es1.size) = z
    intro T2
    refine wpAny_bind (free _ _ _ (wpAny_bind (wpAny_storeSet_of o1 rfl ?_ (fits_of_scanBound T2.few))))
    exact wpAny_pure (hZ _ (b1.trans (Heap.SameBut.update _ a _)) ⟨_, z.1, _, z.2.1, nx_store (es' := z.1) (t' := z.2.1) o1 rfl, hx, rfl, T2⟩)
  · exact wpAny_pure (hZ _ b1 ⟨_, es1, _, t2, o1, hx, rfl, T⟩)
theorem nx_add {ks : List NK} {k : NK} {v : Value} {Z : Bool → Shared → Prop} (kv : nkIs k v = true) (R : NxS w s.heap a ks) (room : ks.length + 1 < scanBound)
    (hZ : ∀ h' b ks', Heap.SameBut a s.heap h' → NxS w h' a ks' → (∀ x, x ∈ ks' ↔ x = k ∨ x ∈ ks) → ks'.length ≤ ks.length + 1 → Z b { s with heap := h' }) : wpAny (model P w) A (setAddHashed a v ((noneKind P w).hash k)) Z E s := by
  obtain ⟨o, es, ep, t, ho, hx, hd, T⟩ := R
  have hsc : v.scannable = true := (nx_val kv).2
  unfold setAddHashed setAddHashedIn
  refine wpAny_holding (wpAny_bind (wpAny_setState_of ho hd T.fit ?_))
  show wpAny _ _ (if byScan v es = true then _ else _) _ _ _
  rw [if_pos (byScan_of hsc T.few (T.elems (P := P)))]
  unfold setAddByScan
  refine wpAny_bind (wpAny_bind (wpAny_rule (wpAny_bind (wpAny_setScan_of (kv) ho hd T.fit T.elems ?_))))
  cases hf : es.toList.findIdx? (fun e => (noneKind P w).is k e.2) with
  | some j =>
    obtain ⟨hj, pj, _⟩ := List.findIdx?_eq_some_iff_getElem.mp hf
    have hk : k ∈ ks := T.mem.mem_iff.mp (List.mem_map.mpr ⟨_, List.getElem_mem hj, (nx_is (T.ent _ (List.getElem_mem hj)) k).mp pj⟩)
    refine wpAny_pure (wpAny_pure (hZ s.heap _ ks (Heap.SameBut.refl a s.heap) ⟨o, es, ep, t, ho, hx, hd, T⟩ (fun x => ⟨.inr, fun q => q.elim (fun e => e ▸ hk) id⟩) (Nat.le_succ _)))
  | none =>
    have hk : k ∉ ks := fun q => by
      obtain ⟨e, he, ee⟩ := List.mem_map.mp (T.mem.mem_iff.mpr q)
      have c := List.findIdx?_eq_none_iff.mp hf e he
      rw [(nx_is (T.ent e he) k).mpr ee] at c
      cases c
    have gw : ∀ (b : Bool) {r : Shared} {Y : Unit → Shared → Prop}, Y () r → wpAny (model P w) A (match b with | true => rule "set.scan.the-table-gave-way" | false => pure ()) Y E r := fun b r Y q => by
      cases b
      · exact wpAny_pure q
      · exact wpAny_rule q
    have pm := layNew_perm t es ((noneKind P w).hash k) v
    have f1 := layNew_fits t es ((noneKind P w).hash k) v
    have r1 := L2.layNew_ris t es ((noneKind P w).hash k) v T.ris
    have l1 := L2.layNew_led t es ((noneKind P w).hash k) v
    dsimp only
    revert pm f1 r1 l1
    generalize layNew t es ((noneKind P w).hash k) v = z
    obtain ⟨es1, t1, wd, gave⟩ := z
    dsimp only
    intro pm f1 r1 l1
    rw [Array.toList_push] at pm
    have pc : es1.toList.Perm (((noneKind P w).hash k, v) :: es.toList) := pm.trans (List.perm_append_singleton _ _)
    have n1 : es1.size = es.size + 1 := by
      rw [← Array.length_toList, pc.length_eq, List.length_cons, Array.length_toList]
    have n2 : ks.length = es.size := by
      rw [← T.mem.length_eq, List.length_map, Array.length_toList]
    have mk : ∀ t2 : SetTable, t2.fits es1.size = true → Ris t2.place.toList → t2.led = t1.led → NxT w es1 t2 (k :: ks) := fun t2 q1 q2 q3 =>
      ⟨fun e he => (List.mem_cons.mp (pc.mem_iff.mp he)).elim (fun q => by rw [q]; exact ⟨k, kv, by rw [hashN_is]⟩) (T.ent e), (pc.map nxOf).trans (by rw [List.map_cons, show nxOf (_, v) = k from (nx_val kv).1]; exact T.mem.cons k), List.nodup_cons.mpr ⟨hk, T.nd⟩, by rw [n1, ← n2]; exact room, q1, q2, by rw [q3, l1]; exact T.led⟩
    have fin : ∀ h', Heap.SameBut a s.heap h' → NxS w h' a (k :: ks) → Z true { s with heap := h' } := fun h' sb r => hZ h' true (k :: ks) sb r (fun x => List.mem_cons) (Nat.le_refl _)
    refine wpAny_bind (gw _ ?_)
    split
    · refine wpAny_bind ?_
      rw [hashByValue_scannable 8 hsc]
      refine wpAny_pure (nx_tail (fun b r Y q => gw b q) ho hx hd (mk _ ?_ ?_ ?_) fun h' sb r => wpAny_pure (fin h' sb r))
      · first | (split <;> first | exact f1 | exact SetTable.fits_plain_off f1) | exact f1
      · first | (split <;> exact r1) | exact r1
      · first | (split <;> rfl) | rfl
    · refine wpAny_bind (wpAny_pure ?_)
      simp only [↓reduceIte]
      exact nx_tail (fun b r Y q => gw b q) ho hx hd (mk t1 f1 r1 rfl) fun h' sb r => wpAny_pure (fin h' sb r)
end
/-! ### set(a list of texts), sorted(a set of texts) -/
abbrev newSetN (w : World) : Obj := { cls := .type "set", dict := none, data := .set #[] 0 (.fresh 0 0 (!w.params.followText "set-order")) }
theorem nx_new {w : World} {h : Heap} {a : Addr} (e : h.get? a = some (newSetN w)) : NxS w h a [] := by
  refine ⟨_, #[], 0, _, e, ⟨rfl, rfl, rfl⟩, rfl, fun e he => ?_, .nil, List.nodup_nil, by decide, by rfl, List.Pairwise.nil, ?_⟩
  · simp at he
  · show _ ∨ (!w.params.followText "set-order") = true
    cases w.params.followText "set-order"
    · exact .inr rfl
    · exact .inl rfl
section
variable {P : Program} {w : World} {A : Around} {E : Value → Shared → Prop} {s : Shared}
theorem nx_fill {I S : Addr} {fp wr : List Addr} {G : Array GenState → Array GenState → Prop} {n : Nat} {Pv : Nat → Value → Prop} {St : Nat → Shared → Prop} {Z : Result → Shared → Prop} (W : WalksS P w A.in1 I fp wr G n Pv St) (nS : S ∉ fp) (xs : List NK) (en : n = xs.length) (room : xs.length + 1 < scanBound)
    (txt : ∀ i v, Pv i v → ∃ k, xs[i]? = some k ∧ nkIs k v = true) : ∀ (m i : Nat) (s : Shared), n - i = m → i ≤ n → St i s → (∃ ks, NxS w s.heap S ks ∧ (∀ x, x ∈ ks ↔ x ∈ xs.take i) ∧ ks.length ≤ i) →
      (∀ s' ks, Moved (S :: wr) G s s' → NxS w s'.heap S ks → (∀ x, x ∈ ks ↔ x ∈ xs) → ks.length ≤ n → Z (.ok (.ret .none)) s') → codeAny (model P w) A (.builtin "set.update.loop" ⟨[.ref S, .ref I], []⟩) Z s := by
  have nW : S ∉ wr := fun q => nS (W.sub _ q)
  have up : ∀ b ∈ wr, b ∈ S :: wr := fun b q => List.mem_cons_of_mem _ q
  intro m
  induction m with
  | zero =>
    rintro i s hm hi st ⟨ks, R, sub, len⟩ fin
    obtain rfl : i = n := by omega
    rw [List.take_of_length_le (by omega)] at sub
    refine codeAny_builtin PyProof.Rows.F.entry_set_update_loop ?_
    rw [Around.under_plainId PyProof.Rows.F.plain_set_update_loop _]
    show wpAny _ A.in1 (pyNext (.ref I) >>= _) _ _ _
    refine wpAny_bind (W.done s _ _ st fun s' mv => ?_)
    exact wpAny_pure (fin s' ks (mv.mono up) (R.keep fun o e => mv.heap S o nW e) sub len)
  | succ m ih =>
    rintro i s hm hi st ⟨ks, R, sub, len⟩ fin
    have lt : i < n := by omega
    refine codeAny_builtin PyProof.Rows.F.entry_set_update_loop ?_
    rw [Around.under_plainId PyProof.Rows.F.plain_set_update_loop _]
    show wpAny _ A.in1 (pyNext (.ref I) >>= _) _ _ _
    refine wpAny_bind (W.item i s _ _ lt st fun v s' pv st' mv => ?_)
    obtain ⟨k, hk, kv⟩ := txt i v pv
    have R1 : NxS w s'.heap S ks := R.keep fun o e => mv.heap S o nW e
    show wpAny _ A.in1 (holding [v] (setAdd S v) >>= _) _ _ _
    refine wpAny_bind (wpAny_holding ?_)
    unfold setAdd
    refine wpAny_holding (wpAny_bind ((noneKind P w).pyHash (k := k) kv ?_))
    refine nx_add (s := { s' with toks := s'.toks + 1 }) kv R1 (by omega) fun h' b ks' sb R2 mem ln => ?_
    refine wpAny_pure ⟨plainId_quiet PyProof.Rows.F.plain_set_update_loop _, ih (i + 1) _ (by omega) lt (W.frame _ s' _ _ st' (Nat.le_succ _) fun c hc o e => ?_) ⟨ks', R2, fun x => ?_, by omega⟩ fun s'' ks'' mv2 R3 sub3 ln3 => ?_⟩
    · rw [sb.2 c (fun q : c = S => nS (q ▸ hc))]
      exact e
    · rw [mem x, List.take_add_one, hk, List.mem_append, sub x]
      exact ⟨fun q => q.elim (fun e => .inr (by rw [e]; exact List.mem_singleton.mpr rfl)) .inl, fun q => q.elim .inr fun e => .inl (List.mem_singleton.mp e)⟩
    · refine fin s'' ks'' (Moved.trans W.gtrans ((mv.mono up).then_heap (Nat.le_succ _) fun c o hc e => ?_) mv2) R3 sub3 ln3
      rw [sb.2 c (fun q : c = S => hc (by rw [q]; exact List.mem_cons_self))]
      exact e
set_option maxHeartbeats 8000000 in
theorem nx_make {l : Addr} {its : Array Value} (xs : List NK) {Z : Value → Shared → Prop} (calm : A.handled = none) (hl : s.heap.IsList l its) (many : its.size = xs.length) (hx : ∀ (i : Nat) (v : Value), its[i]? = some v → ∃ k, xs[i]? = some k ∧ nkIs k v = true) (room : xs.length + 1 < scanBound)
    (hZ : ∀ (h' : Heap) (tk : Nat) (ks : List NK), NxS w h' s.heap.objs.size ks → (∀ x, x ∈ ks ↔ x ∈ xs) → ks.length ≤ xs.length → (∀ b o, s.heap.get? b = some o → h'.get? b = some o) → Z (.ref s.heap.objs.size) { s with heap := h', toks := tk }) :
    wpAny (model P w) A (call (.type "set") [.ref l]) Z E s := by
  obtain ⟨_, _, m1⟩ := PySem.F.called_set.mro; have m2 := PySem.F.called_set.made; have m3 := PySem.F.called_set.sub
  refine wpAny_call (codeAny_of_tree ?_)
  show wpAny _ _ (callAny (.type "set") ⟨[.ref l], []⟩) _ _ _
  refine wpAny_pure ⟨Code.quiet_builtin _ (by decide +kernel), codeAny_builtin PySem.F.entry_type_call ?_⟩
  rw [Around.under_plain (weight_type_call_type "set" [.ref l] []) rfl]
  have c1 := PySem.F.called_set.notType; have c2 := PySem.F.called_set.canCreate; have c3 := PySem.F.typeCall_set_1 (.ref l)
  repeat (any_goals (first | assumption | wp_step))
  refine codeAny_mono (L2.code_set_led1 (.ref l) (E := E) (Q₁ := fun v r => v = .ref s.heap.objs.size ∧ r = { s with heap := s.heap.push (newSetN w) }) ⟨rfl, rfl⟩) fun res r1 hr => ?_
  match res, hr with
  | .error e, hr => exact hr
  | .ok (.ret v), hr =>
    obtain ⟨rfl, rfl⟩ := hr
    have at0 : (s.heap.push (newSetN w)).get? s.heap.objs.size = some (newSetN w) := Heap.get?_push_size _ rfl
    have ty0 : Shared.TypeIs { s with heap := s.heap.push (newSetN w) } (.ref s.heap.objs.size) "set" := ⟨_, at0, rfl⟩
    have i1 := PySem.F.called_set.init.lookup; have i2 := PySem.F.called_set.init.bind (.ref s.heap.objs.size)
    repeat (any_goals (first | assumption | wp_step))
    refine codeAny_mono (codeAny_call_builtin (R := wants (fun v r => v = .none ∧ ∃ h' tk ks, r = { s with heap := h', toks := tk } ∧ NxS w h' s.heap.objs.size ks ∧ (∀ x, x ∈ ks ↔ x ∈ xs) ∧ ks.length ≤ xs.length ∧ ∀ b o, s.heap.get? b = some o → h'.get? b = some o) E) PySem.F.called_set.init.plain
      PySem.F.entry_set_init (check_set_init_1 ty0 ?_)) fun res2 r2 hr2 => ?_
    · obtain ⟨⟨ocls, od, odt, osl⟩, e0, e1, nn, e2⟩ := hl
      simp only at e1 e2
      subst e1; subst e2
      have lS : l < s.heap.objs.size := Heap.lt_size e0
      have e3 := Heap.get?_push_of_some (newSetN w) e0
      have d1 := PySem.F.sub_list_set; have d2 := PySem.F.sub_list_frozenset; have d3 : (Value.type "list" == Value.type "dict") = false := by decide
      have l1 : (s.heap.push (newSetN w)).IsList l its := ⟨_, e3, rfl, nn, rfl⟩
      unfold Builtin.«set.__init__» noKeywords Builtin.Frozenset.updateFrom
      generalize hPI : pyIter = PI
      wp_walk
      subst hPI
      refine wpAny_pyIter_list l1 (wpAny_bind (wpAny_runValue ?_))
      have z1 : (s.heap.push (newSetN w)).objs.size = s.heap.objs.size + 1 := Heap.size_push ..
      have far : l ≠ (s.heap.push (newSetN w)).objs.size := by
        rw [z1]
        exact Nat.ne_of_lt (Nat.lt_succ_of_lt lS)
      have out : s.heap.objs.size ∉ [(s.heap.push (newSetN w)).objs.size, l] := by
        rw [z1, List.mem_cons, List.mem_singleton]
        exact fun q => q.elim (Nat.ne_of_lt (Nat.lt_succ_self _)) (Nat.ne_of_gt lS)
      refine nx_fill ((Walks.list (show A.in1.in1.in1.handled = none by simp [calm]) _ l far its).toS) out xs many room (fun i v hv => ?_) (its.size - 0) 0 _ rfl (Nat.zero_le _) ⟨⟨_, Heap.get?_push_size _ rfl, rfl, rfl⟩, l1.push _⟩ ⟨[], nx_new (Heap.get?_push_of_some _ at0), fun _ => Iff.rfl, Nat.le_refl _⟩ fun r ks mv R sub ln => ?_
      · exact hx i v hv
      · obtain ⟨h', g', d', tk', os'⟩ := r
        obtain rfl : g' = s.gens := mv.gens
        obtain rfl : d' = s.drawn := mv.drawn
        obtain rfl : os' = s.os := mv.os
        show wpAny _ _ _ _ _ _
        refine wpAny_pure ?_
        show wpAny _ _ (ret Value.none) _ _ _
        refine wpAny_pure ⟨rfl, h', tk', ks, rfl, R, sub, by omega, fun b o e => ?_⟩
        have b0 : b < s.heap.objs.size := Heap.lt_size e
        refine mv.heap b o ?_ (Heap.get?_push_of_some _ (Heap.get?_push_of_some _ e))
        rw [List.mem_cons, List.mem_singleton, z1]
        exact fun q => q.elim (Nat.ne_of_lt b0) (Nat.ne_of_lt (Nat.lt_succ_of_lt b0))
    · match res2, hr2 with
      | .error e, hr2 => exact hr2
      | .ok (.ret v), hr2 =>
        obtain ⟨rfl, h', tk, ks, rfl, R, sub, ln, kp⟩ := hr2
        repeat (any_goals (first | assumption | wp_step))
        exact hZ _ _ _ R sub ln kp
set_option maxHeartbeats 8000000 in
theorem nx_makeT {l : Addr} {its : Array Value} (xs : List NK) {Z : Value → Shared → Prop} (calm : A.handled = none) (hl : s.heap.IsTuple l its) (many : its.size = xs.length) (hx : ∀ (i : Nat) (v : Value), its[i]? = some v → ∃ k, xs[i]? = some k ∧ nkIs k v = true) (room : xs.length + 1 < scanBound)
    (hZ : ∀ (h' : Heap) (tk : Nat) (ks : List NK), NxS w h' s.heap.objs.size ks → (∀ x, x ∈ ks ↔ x ∈ xs) → ks.length ≤ xs.length → (∀ b o, s.heap.get? b = some o → h'.get? b = some o) → Z (.ref s.heap.objs.size) { s with heap := h', toks := tk }) :
    wpAny (model P w) A (call (.type "set") [.ref l]) Z E s := by
  obtain ⟨_, _, m1⟩ := PySem.F.called_set.mro; have m2 := PySem.F.called_set.made; have m3 := PySem.F.called_set.sub
  refine wpAny_call (codeAny_of_tree ?_)
  show wpAny _ _ (callAny (.type "set") ⟨[.ref l], []⟩) _ _ _
  refine wpAny_pure ⟨Code.quiet_builtin _ (by decide +kernel), codeAny_builtin PySem.F.entry_type_call ?_⟩
  rw [Around.under_plain (weight_type_call_type "set" [.ref l] []) rfl]
  have c1 := PySem.F.called_set.notType; have c2 := PySem.F.called_set.canCreate; have c3 := PySem.F.typeCall_set_1 (.ref l)
  repeat (any_goals (first | assumption | wp_step))
  refine codeAny_mono (L2.code_set_led1 (.ref l) (E := E) (Q₁ := fun v r => v = .ref s.heap.objs.size ∧ r = { s with heap := s.heap.push (newSetN w) }) ⟨rfl, rfl⟩) fun res r1 hr => ?_
  match res, hr with
  | .error e, hr => exact hr
  | .ok (.ret v), hr =>
    obtain ⟨rfl, rfl⟩ := hr
    have at0 : (s.heap.push (newSetN w)).get? s.heap.objs.size = some (newSetN w) := Heap.get?_push_size _ rfl
    have ty0 : Shared.TypeIs { s with heap := s.heap.push (newSetN w) } (.ref s.heap.objs.size) "set" := ⟨_, at0, rfl⟩
    have i1 := PySem.F.called_set.init.lookup; have i2 := PySem.F.called_set.init.bind (.ref s.heap.objs.size)
    repeat (any_goals (first | assumption | wp_step))
    refine codeAny_mono (codeAny_call_builtin (R := wants (fun v r => v = .none ∧ ∃ h' tk ks, r = { s with heap := h', toks := tk } ∧ NxS w h' s.heap.objs.size ks ∧ (∀ x, x ∈ ks ↔ x ∈ xs) ∧ ks.length ≤ xs.length ∧ ∀ b o, s.heap.get? b = some o → h'.get? b = some o) E) PySem.F.called_set.init.plain
      PySem.F.entry_set_init (check_set_init_1 ty0 ?_)) fun res2 r2 hr2 => ?_
    · obtain ⟨⟨ocls, od, odt, osl⟩, e0, e1, nn, e2⟩ := hl
      simp only at e1 e2
      subst e1; subst e2
      have lS : l < s.heap.objs.size := Heap.lt_size e0
      have e3 := Heap.get?_push_of_some (newSetN w) e0
      have d1 := PySem.F.sub_tuple_set; have d2 := PySem.F.sub_tuple_frozenset; have d3 : (Value.type "tuple" == Value.type "dict") = false := by decide
      have l1 : (s.heap.push (newSetN w)).IsTuple l its := ⟨_, e3, rfl, nn, rfl⟩
      unfold Builtin.«set.__init__» noKeywords Builtin.Frozenset.updateFrom
      generalize hPI : pyIter = PI
      wp_walk
      subst hPI
      refine wpAny_pyIter_tuple l1 (wpAny_bind (wpAny_runValue ?_))
      have z1 : (s.heap.push (newSetN w)).objs.size = s.heap.objs.size + 1 := Heap.size_push ..
      have far : l ≠ (s.heap.push (newSetN w)).objs.size := by
        rw [z1]
        exact Nat.ne_of_lt (Nat.lt_succ_of_lt lS)
      have out : s.heap.objs.size ∉ [(s.heap.push (newSetN w)).objs.size, l] := by
        rw [z1, List.mem_cons, List.mem_singleton]
        exact fun q => q.elim (Nat.ne_of_lt (Nat.lt_succ_self _)) (Nat.ne_of_gt lS)
      refine nx_fill ((Walks.tuple (show A.in1.in1.in1.handled = none by simp [calm]) _ l far its).toS) out xs many room (fun i v hv => ?_) (its.size - 0) 0 _ rfl (Nat.zero_le _) ⟨⟨_, Heap.get?_push_size _ rfl, rfl, rfl⟩, l1.push _⟩ ⟨[], nx_new (Heap.get?_push_of_some _ at0), fun _ => Iff.rfl, Nat.le_refl _⟩ fun r ks mv R sub ln => ?_
      · exact hx i v hv
      · obtain ⟨h', g', d', tk', os'⟩ := r
        obtain rfl : g' = s.gens := mv.gens
        obtain rfl : d' = s.drawn := mv.drawn
        obtain rfl : os' = s.os := mv.os
        show wpAny _ _ _ _ _ _
        refine wpAny_pure ?_
        show wpAny _ _ (ret Value.none) _ _ _
        refine wpAny_pure ⟨rfl, h', tk', ks, rfl, R, sub, by omega, fun b o e => ?_⟩
        have b0 : b < s.heap.objs.size := Heap.lt_size e
        refine mv.heap b o ?_ (Heap.get?_push_of_some _ (Heap.get?_push_of_some _ e))
        rw [List.mem_cons, List.mem_singleton, z1]
        exact fun q => q.elim (Nat.ne_of_lt b0) (Nat.ne_of_lt (Nat.lt_succ_of_lt b0))
    · match res2, hr2 with
      | .error e, hr2 => exact hr2
      | .ok (.ret v), hr2 =>
        obtain ⟨rfl, h', tk, ks, rfl, R, sub, ln, kp⟩ := hr2
        repeat (any_goals (first | assumption | wp_step))
        exact hZ _ _ _ R sub ln kp
end

/-! ### as rules -/
def NxO (w : World) (a : Addr) (ks : List NK) : HO := .ext fun h => NxS w h a ks
theorem nxO_new {w : World} {P : Program} {H : Hp} {h : Heap} {a : Addr} {ks : List NK} (R : NxS w h a ks) : ObjOk P w H h a (NxO w a ks) := by
  have ⟨o, _, _, _, ho, _⟩ := R
  exact ⟨R, ⟨o, ho⟩, fun _ _ p k => p.keep k⟩
def nkV : NK → V
  | none => .non
  | some k => kV k
theorem nk_rel {k : NK} {v : Value} (h : RelV (nkV k) v) : nkIs k v = true := by
  cases k with
  | none =>
    cases (show v = Value.none from h)
    rfl
  | some k =>
    cases k with
    | inl i =>
      obtain ⟨t, rfl⟩ := (show ∃ t, v = Value.int i t from h)
      exact beq_self_eq_true _
    | inr x =>
      obtain ⟨t, rfl⟩ := (show ∃ t, v = Value.str x t from h)
      exact beq_self_eq_true _
theorem nk_vals : ∀ {ks : List NK} {vs : List Value}, Vals (ks.map nkV) vs → vs.length = ks.length ∧ ∀ (i : Nat) (v : Value), vs[i]? = some v → ∃ k, ks[i]? = some k ∧ nkIs k v = true
  | [], _, r => by
    cases r
    exact ⟨rfl, fun i v h => by cases i <;> cases h⟩
  | k :: ks, _, r => by
    cases r with
    | cons r1 r2 =>
      obtain ⟨l, h⟩ := nk_vals r2
      refine ⟨congrArg (· + 1) l, fun i v hi => ?_⟩
      cases i with
      | zero =>
        cases hi
        exact ⟨k, rfl, nk_rel r1⟩
      | succ i => exact h i v hi
section
variable {X : Cx}
/-- set(a list or tuple of texts, ints, None) -/
def rSetN (w : World) (K : PySem.W.Frag) : List V → Hp → VK → Prop := fun xs H Q => ∃ (a : Addr) (ys : List NK), xs = [.ref a] ∧ (SqL K H a (ys.map nkV) ∨ SqT K H a (ys.map nkV)) ∧ ys.length < 4000 ∧ ∀ (p : Addr) (ks : List NK), H p = none → ks.Nodup → (∀ x, x ∈ ks ↔ x ∈ ys) → ks.length ≤ ys.length → Q (.ref p) (upd H p (NxO w p ks))
theorem cr_setN (calm : X.calm = true) : CallR X (.type "set") (rSetN X.w X.K) := by
  intro pins s σ H xs us Q I r h
  obtain ⟨a, ys, rfl, hs, hl, q⟩ := h
  rw [Vals.ref1 r]
  have hn : H s.heap.objs.size = none := I.hok.fresh (Nat.le_refl _)
  rcases hs with hs | hs
  · obtain ⟨its, rv, at1, _⟩ := I.list hs
    obtain ⟨l1, l2⟩ := nk_vals rv
    refine nx_make ys (I.ok.hd calm) at1.isList (by rw [List.size_toArray]; exact l1) (fun i v hi => l2 i v (by rw [List.getElem?_toArray] at hi; exact hi)) (by show ys.length + 1 < 4096; omega) fun h' tk ks R sub ln kp => ?_
    exact ⟨.ref s.heap.objs.size, _, I.laid (t' := tk) kp (Nat.le_refl _) (nxO_new R), rfl, q _ ks hn (let ⟨_, _, _, _, _, _, _, T⟩ := R; T.nd) sub ln⟩
  · obtain ⟨its, rv, at1, _⟩ := I.tuple hs
    obtain ⟨l1, l2⟩ := nk_vals rv
    refine nx_makeT ys (I.ok.hd calm) at1 (by rw [List.size_toArray]; exact l1) (fun i v hi => l2 i v (by rw [List.getElem?_toArray] at hi; exact hi)) (by show ys.length + 1 < 4096; omega) fun h' tk ks R sub ln kp => ?_
    exact ⟨.ref s.heap.objs.size, _, I.laid (t' := tk) kp (Nat.le_refl _) (nxO_new R), rfl, q _ ks hn (let ⟨_, _, _, _, _, _, _, T⟩ := R; T.nd) sub ln⟩
/-- len(such a set) -/
def rLenN (w : World) : List V → Hp → VK → Prop := fun xs H Q => ∃ (a : Addr) (ks : List NK), xs = [.ref a] ∧ H a = some (NxO w a ks) ∧ Q (.int ks.length) H
theorem cr_lenN : CallR X (.builtin "len") (rLenN X.w) := by
  intro pins s σ H xs us Q I r h
  obtain ⟨a, ks, rfl, ha, q⟩ := h
  have R : NxS X.w s.heap a ks := (I.hok a _ ha).1
  obtain ⟨o, es, ep, t, ho, hx, hd, T⟩ := R
  have n2 : ks.length = es.size := by
    rw [← T.mem.length_eq, List.length_map, Array.length_toList]
  have few : es.size < 4096 := T.few
  rw [Vals.ref1 r]
  exact call_len_set ho hx hd T.fit (by omega) ⟨.int ks.length, H, I.tok _, ⟨_, by rw [n2]⟩, q⟩
end
/-! ### ascending order as a function -/
instance (a b : Str) : Decidable (LeS a b) := inferInstanceAs (Decidable (sg a ≤ sg b))
def leB (a b : Str) : Bool := decide (LeS a b)
def sortS (xs : List Str) : List Str := xs.mergeSort leB
theorem sortS_perm (xs : List Str) : (sortS xs).Perm xs := List.mergeSort_perm _ _
theorem pw_rise : ∀ (l : List Str) (p : Str), (p :: l).Pairwise LeS → risingS p l = true
  | [], _, _ => rfl
  | x :: r, p, h => by
    obtain ⟨h1, h2⟩ := List.pairwise_cons.mp h
    show (!ltCps (sg x) (sg p) && risingS x r) = true
    rw [pw_rise r x h2, Bool.and_true, ltCps_eq]
    have z : ¬ (sg x < sg p) := List.not_lt.mpr (h1 x List.mem_cons_self)
    simpa using z
theorem pw_up {l : List Str} (h : l.Pairwise LeS) : sortedS l = true := by
  cases l with
  | nil => rfl
  | cons x r => exact pw_rise r x h
theorem sortS_up (xs : List Str) : sortedS (sortS xs) = true := by
  refine pw_up ?_
  have h := List.pairwise_mergeSort (le := leB) (fun a b c h1 h2 => decide_eq_true (leS_trans (of_decide_eq_true h1) (of_decide_eq_true h2))) (fun a b => by
    rcases List.le_total (sg a) (sg b) with h | h
    · rw [show leB a b = true from decide_eq_true h]; rfl
    · rw [show leB b a = true from decide_eq_true h, Bool.or_true]) xs
  exact h.imp fun h => of_decide_eq_true h
theorem sortS_of {xs ys : List Str} (p : ys.Perm xs) (up : sortedS ys = true) : ys = sortS xs := up_uniq (p.trans (sortS_perm xs).symm) up (sortS_up xs)
theorem sortS_idem (xs : List Str) : sortS (sortS xs) = sortS xs := (sortS_of (sortS_perm xs |>.trans (.refl _) |> fun p => by exact List.Perm.refl _) (sortS_up xs)).symm
theorem sortS_congr {xs ys : List Str} (p : xs.Perm ys) : sortS xs = sortS ys := sortS_of ((sortS_perm xs).trans p) (sortS_up xs)
theorem mem_sortS {xs : List Str} {x : Str} : x ∈ sortS xs ↔ x ∈ xs := (sortS_perm xs).mem_iff
/-! ### what a row of a wish allows -/
/-- None, then the targets in ascending order -/
def ascO (l : List (Option Str)) : List (Option Str) := (if none ∈ l then [none] else []) ++ (sortS (l.filterMap id)).map some
theorem filt_some (l : List Str) : (l.map some).filterMap id = l := by
  induction l with
  | nil => rfl
  | cons x r ih =>
    show x :: (r.map some).filterMap id = _
    rw [ih]
theorem ascO_mem {l : List (Option Str)} {o : Option Str} : o ∈ ascO l ↔ o ∈ l := by
  unfold ascO
  rw [List.mem_append]
  cases o with
  | none =>
    constructor
    · rintro (h | h)
      · split at h
        · assumption
        · exact absurd h List.not_mem_nil
      · obtain ⟨x, _, e⟩ := List.mem_map.mp h
        cases e
    · intro h
      rw [if_pos h]
      exact .inl List.mem_cons_self
  | some x =>
    constructor
    · rintro (h | h)
      · split at h
        · rcases List.mem_cons.mp h with e | h
          · cases e
          · exact absurd h List.not_mem_nil
        · exact absurd h List.not_mem_nil
      · obtain ⟨y, hy, e⟩ := List.mem_map.mp h
        cases e
        have := mem_sortS.mp hy
        rw [List.mem_filterMap] at this
        obtain ⟨o, ho, e⟩ := this
        rw [show o = some x from e] at ho
        exact ho
    · intro h
      refine .inr (List.mem_map.mpr ⟨x, mem_sortS.mpr ?_, rfl⟩)
      exact List.mem_filterMap.mpr ⟨some x, h, rfl⟩
theorem ascO_filt (l : List (Option Str)) : (ascO l).filterMap id = sortS (l.filterMap id) := by
  unfold ascO
  rw [List.filterMap_append, filt_some]
  split <;> rfl
theorem ascO_idem (l : List (Option Str)) : ascO (ascO l) = ascO l := by
  have e2 : ascO (ascO l) = (if none ∈ ascO l then [none] else []) ++ (sortS ((ascO l).filterMap id)).map some := rfl
  rw [e2, ascO_filt, sortS_idem]
  have e3 : ascO l = (if none ∈ l then [none] else []) ++ (sortS (l.filterMap id)).map some := rfl
  by_cases h : none ∈ l
  · rw [if_pos (ascO_mem.mpr h), e3, if_pos h]
  · rw [if_neg (fun q => h (ascO_mem.mp q)), e3, if_neg h]
theorem nodup_filt {l : List (Option Str)} (h : l.Nodup) : (l.filterMap id).Nodup := by
  induction l with
  | nil => exact List.nodup_nil
  | cons o r ih =>
    obtain ⟨h1, h2⟩ := List.nodup_cons.mp h
    cases o with
    | none => exact ih h2
    | some x =>
      show (x :: r.filterMap id).Nodup
      refine List.nodup_cons.mpr ⟨fun q => h1 ?_, ih h2⟩
      obtain ⟨o, ho, e⟩ := List.mem_filterMap.mp q
      rw [show o = some x from e] at ho
      exact ho
theorem ascO_nodup {l : List (Option Str)} (h : l.Nodup) : (ascO l).Nodup := by
  unfold ascO
  refine List.nodup_append.mpr ⟨by split; exact List.nodup_cons.mpr ⟨List.not_mem_nil, List.nodup_nil⟩; exact List.nodup_nil, (((sortS_perm _).nodup_iff.mpr (nodup_filt h)).map some fun a b h e => h (Option.some.inj e)), fun a ha b hb e => ?_⟩
  split at ha
  · rcases List.mem_cons.mp ha with rfl | ha
    · obtain ⟨x, _, ex⟩ := List.mem_map.mp hb
      rw [← e] at ex
      cases ex
    · exact absurd ha List.not_mem_nil
  · exact absurd ha List.not_mem_nil
theorem filt_len (l : List (Option Str)) : (l.filterMap id).length ≤ l.length := List.length_filterMap_le ..
theorem ascO_len {l : List (Option Str)} (h : l.Nodup) : (ascO l).length = l.length := by
  have p : (ascO l).Perm l := (List.perm_ext_iff_of_nodup (ascO_nodup h) h).mpr fun o => ascO_mem
  exact p.length_eq
/-- a target of a row: a target or None -/
def tgtO (t : Str → Bool) : Option Str → Prop
  | none => True
  | some x => t x = true
structure OkL (t : Str → Bool) (l : List (Option Str)) : Prop where
  nd : l.Nodup
  tg : ∀ o ∈ l, tgtO t o
  few : l.length ≤ 40
theorem OkL.asc {t : Str → Bool} {l : List (Option Str)} (h : OkL t l) : OkL t (ascO l) := ⟨ascO_nodup h.nd, fun o ho => h.tg o (ascO_mem.mp ho), by rw [ascO_len h.nd]; exact h.few⟩
/-! ### rows of a wish -/
abbrev WRows := List (Str × List (Option Str))
def look (rows : WRows) (y : Str) : List (Option Str) := ((rows.find? fun r => decide (r.1 = y)).map (·.2)).getD []
def sortW (rows : WRows) : WRows := (sortS (rows.map (·.1))).map fun y => (y, ascO (look rows y))
def putR (rows : WRows) (y : Str) (l : List (Option Str)) : WRows := if y ∈ rows.map (·.1) then rows.map (fun r => if r.1 = y then (y, l) else r) else rows ++ [(y, l)]
structure RowsW (t : Str → Bool) (w : Nat) (rows : WRows) : Prop where
  pfx : PfxL w (rows.map (·.1))
  ok : ∀ r ∈ rows, OkL t r.2
theorem look_cons (r : Str × List (Option Str)) (rows : WRows) (z : Str) : look (r :: rows) z = if r.1 = z then r.2 else look rows z := by
  unfold look
  rw [List.find?_cons]
  by_cases e : r.1 = z
  · rw [if_pos e, decide_eq_true e]
    rfl
  · rw [if_neg e, decide_eq_false e]
theorem look_mem {rows : WRows} (nd : (rows.map (·.1)).Nodup) {y : Str} {l : List (Option Str)} (h : (y, l) ∈ rows) : look rows y = l := by
  induction rows with
  | nil => cases h
  | cons r rows ih =>
    rw [List.map_cons, List.nodup_cons] at nd
    rw [look_cons]
    rcases List.mem_cons.mp h with rfl | h
    · rw [if_pos rfl]
    · rw [if_neg fun e => nd.1 (by rw [e]; exact List.mem_map.mpr ⟨_, h, rfl⟩)]
      exact ih nd.2 h
theorem look_at {rows : WRows} {y : Str} (h : y ∈ rows.map (·.1)) : (y, look rows y) ∈ rows := by
  induction rows with
  | nil => cases h
  | cons r rows ih =>
    rw [look_cons]
    by_cases e : r.1 = y
    · rw [if_pos e, ← e]
      exact List.mem_cons_self
    · rw [if_neg e]
      rw [List.map_cons] at h
      exact List.mem_cons_of_mem _ (ih ((List.mem_cons.mp h).resolve_left (fun q => e q.symm)))
theorem look_snoc {rows : WRows} {y z : Str} {l : List (Option Str)} (hm : y ∉ rows.map (·.1)) : look (rows ++ [(y, l)]) z = if z = y then l else look rows z := by
  induction rows with
  | nil =>
    rw [List.nil_append, look_cons]
    by_cases q : z = y
    · rw [if_pos q, if_pos q.symm]
    · rw [if_neg q, if_neg fun e => q e.symm]
  | cons r rows ih =>
    rw [List.map_cons, List.mem_cons, not_or] at hm
    rw [List.cons_append, look_cons, look_cons, ih hm.2]
    by_cases e : r.1 = z
    · rw [if_pos e, if_pos e, if_neg fun q => hm.1 (q.symm.trans e.symm)]
    · rw [if_neg e, if_neg e]
theorem look_repl {rows : WRows} {y z : Str} {l : List (Option Str)} (h : y ∈ rows.map (·.1)) : look (rows.map fun r => if r.1 = y then (y, l) else r) z = if z = y then l else look rows z := by
  have main : ∀ rows : WRows, look (rows.map fun r => if r.1 = y then (y, l) else r) z = if z = y then (if y ∈ rows.map (·.1) then l else []) else look rows z := by
    intro rows
    induction rows with
    | nil => split <;> rfl
    | cons r rows ih =>
      rw [List.map_cons, look_cons, ih, look_cons, List.map_cons]
      by_cases e : r.1 = y
      · rw [if_pos e]
        by_cases q : z = y
        · rw [if_pos q.symm, if_pos q, if_pos (List.mem_cons.mpr (.inl e.symm))]
        · rw [if_neg (fun e2 => q e2.symm), if_neg q, if_neg q, if_neg (fun e2 => q (e2.symm.trans e))]
      · rw [if_neg e]
        by_cases q : z = y
        · rw [if_neg (fun e2 => e (e2.trans q)), if_pos q, if_pos q]
          by_cases hm : y ∈ rows.map (·.1)
          · rw [if_pos hm, if_pos (List.mem_cons_of_mem _ hm)]
          · rw [if_neg hm, if_neg (fun q2 => (List.mem_cons.mp q2).elim (fun q3 => e q3.symm) hm)]
        · rw [if_neg q, if_neg q]
  rw [main, if_pos h]
theorem sortW_keys (rows : WRows) : (sortW rows).map (·.1) = sortS (rows.map (·.1)) := by
  unfold sortW
  rw [List.map_map]
  exact List.map_id' _
theorem look_sortW {rows : WRows} (nd : (rows.map (·.1)).Nodup) {y : Str} (h : y ∈ rows.map (·.1)) : look (sortW rows) y = ascO (look rows y) := by
  refine look_mem ?_ ?_
  · rw [sortW_keys]
    exact (sortS_perm _).nodup_iff.mpr nd
  · exact List.mem_map.mpr ⟨y, mem_sortS.mpr h, rfl⟩
theorem RowsW.sort {t : Str → Bool} {w : Nat} {rows : WRows} (h : RowsW t w rows) : RowsW t w (sortW rows) := by
  refine ⟨?_, fun r hr => ?_⟩
  · rw [sortW_keys]
    exact ⟨(sortS_perm _).nodup_iff.mpr h.pfx.nd, fun x hx => h.pfx.bits x (mem_sortS.mp hx), fun x hx => h.pfx.len x (mem_sortS.mp hx)⟩
  · obtain ⟨y, hy, rfl⟩ := List.mem_map.mp hr
    exact (h.ok _ (look_at (mem_sortS.mp hy))).asc
theorem sortW_len (rows : WRows) : (sortW rows).length = rows.length := by
  unfold sortW
  rw [List.length_map, (sortS_perm _).length_eq, List.length_map]
theorem putR_keys {rows : WRows} {y : Str} {l : List (Option Str)} (z : Str) : z ∈ (putR rows y l).map (·.1) ↔ z = y ∨ z ∈ rows.map (·.1) := by
  unfold putR
  split
  · rename_i h
    have e : (rows.map fun r => if r.1 = y then (y, l) else r).map (·.1) = rows.map (·.1) := by
      rw [List.map_map]
      refine List.map_congr_left fun r _ => ?_
      show (if r.1 = y then (y, l) else r).1 = r.1
      split
      · rename_i e; exact e.symm
      · rfl
    rw [e]
    exact ⟨.inr, fun q => q.elim (fun e => e ▸ h) id⟩
  · rw [List.map_append, List.mem_append]
    exact ⟨fun q => q.elim .inr fun q => .inl (List.mem_singleton.mp q), fun q => q.elim (fun e => .inr (List.mem_singleton.mpr e)) .inl⟩
theorem look_putR {rows : WRows} {y z : Str} {l : List (Option Str)} : look (putR rows y l) z = if z = y then l else look rows z := by
  unfold putR
  split
  · rename_i h
    exact look_repl h
  · rename_i h
    exact look_snoc h
theorem putR_len (rows : WRows) (y : Str) (l : List (Option Str)) : (putR rows y l).length ≤ rows.length + 1 := by
  unfold putR
  split
  · rw [List.length_map]; omega
  · rw [List.length_append]; exact Nat.le_refl _
theorem RowsW.put {t : Str → Bool} {w : Nat} {rows : WRows} (h : RowsW t w rows) {y : Str} {l : List (Option Str)} (hb : isBits y = true) (hl : y.length ≤ w) (ok : OkL t l) : RowsW t w (putR rows y l) := by
  have nd : ((putR rows y l).map (·.1)).Nodup := by
    unfold putR
    split
    · have e : (rows.map fun r => if r.1 = y then (y, l) else r).map (·.1) = rows.map (·.1) := by
        rw [List.map_map]
        refine List.map_congr_left fun r _ => ?_
        show (if r.1 = y then (y, l) else r).1 = r.1
        split
        · rename_i e; exact e.symm
        · rfl
      rw [e]
      exact h.pfx.nd
    · rename_i hm
      rw [List.map_append]
      refine List.nodup_append.mpr ⟨h.pfx.nd, List.nodup_cons.mpr ⟨List.not_mem_nil, List.nodup_nil⟩, fun a ha b hb e => hm ?_⟩
      have e : a = y := by rw [e, List.mem_singleton.mp hb]
      rw [← e]
      exact ha
  refine ⟨⟨nd, fun x hx => ?_, fun x hx => ?_⟩, fun r hr => ?_⟩
  · rcases (putR_keys x).mp hx with rfl | hx
    · exact hb
    · exact h.pfx.bits x hx
  · rcases (putR_keys x).mp hx with rfl | hx
    · exact hl
    · exact h.pfx.len x hx
  · have e := look_mem nd (y := r.1) (l := r.2) hr
    rw [look_putR] at e
    rw [← e]
    split
    · exact ok
    · rename_i q
      have hk : r.1 ∈ (putR rows y l).map (·.1) := List.mem_map.mpr ⟨r, hr, rfl⟩
      exact h.ok _ (look_at (((putR_keys r.1).mp hk).resolve_left q))
/-! ### the values of wishes in the heap -/
def isT (x : Str) : Bool := isTgt (.str x)
def InRow (K : PySem.W.Frag) (H : Hp) (kv : Key × V) (r : Str × List (Option Str)) : Prop := kv.1 = .inr r.1 ∧ ∃ a, kv.2 = .ref a ∧ (SqL K H a (r.2.map optV) ∨ SqT K H a (r.2.map optV))
def InVal (K : PySem.W.Frag) (H : Hp) (kvs : List (Key × V)) (rows : WRows) : Prop := Paired (InRow K H) kvs rows
/-- kept: new tuples -/
def WRow (H : Hp) (kv : Key × V) (r : Str × List (Option Str)) : Prop := kv.1 = .inr r.1 ∧ ∃ a, kv.2 = .ref a ∧ H a = some (.tup (r.2.map optV))
def WVal (H : Hp) (kvs : List (Key × V)) (rows : WRows) : Prop := Paired (WRow H) kvs rows
theorem WVal.in {K : PySem.W.Frag} {H : Hp} {kvs : List (Key × V)} {rows : WRows} (h : WVal H kvs rows) : InVal K H kvs rows := h.mono fun _ _ ⟨e, a, e2, ha⟩ => ⟨e, a, e2, .inr (SqT.of ha)⟩
theorem SqO.same {K : PySem.W.Frag} {H H' : Hp} {a : Addr} {vs : List V} (s : Same H H') (h : SqL K H a vs ∨ SqT K H a vs) : SqL K H' a vs ∨ SqT K H' a vs := h.imp s.seq (SqT.same s)
theorem InVal.same {K : PySem.W.Frag} {H H' : Hp} {kvs : List (Key × V)} {rows : WRows} (s : Same H H') (h : InVal K H kvs rows) : InVal K H' kvs rows := h.mono fun _ _ ⟨e, a, e2, ha⟩ => ⟨e, a, e2, SqO.same s ha⟩
theorem WVal.same {H H' : Hp} {kvs : List (Key × V)} {rows : WRows} (s : Same H H') (h : WVal H kvs rows) : WVal H' kvs rows := h.mono fun _ _ ⟨e, a, e2, ha⟩ => ⟨e, a, e2, s _ _ ha⟩
theorem paired_keys {R : Key × V → Str × List (Option Str) → Prop} (hR : ∀ kv r, R kv r → kv.1 = .inr r.1) : ∀ {kvs : List (Key × V)} {rows : WRows}, Paired R kvs rows → kvs.map (·.1) = (rows.map (·.1)).map Sum.inr
  | _, _, .nil => rfl
  | _, _, .cons h t => by
    rw [List.map_cons, List.map_cons, List.map_cons, hR _ _ h, paired_keys hR t]
theorem InVal.keys {K : PySem.W.Frag} {H : Hp} {kvs : List (Key × V)} {rows : WRows} (h : InVal K H kvs rows) : kvs.map (·.1) = (rows.map (·.1)).map Sum.inr := paired_keys (fun _ _ q => q.1) h
theorem WVal.keys {H : Hp} {kvs : List (Key × V)} {rows : WRows} (h : WVal H kvs rows) : kvs.map (·.1) = (rows.map (·.1)).map Sum.inr := paired_keys (fun _ _ q => q.1) h
theorem paired_at {R : Key × V → Str × List (Option Str) → Prop} (hR : ∀ kv r, R kv r → kv.1 = .inr r.1) {y : Str} : ∀ {kvs : List (Key × V)} {rows : WRows}, Paired R kvs rows → y ∈ rows.map (·.1) → ∃ v, valV kvs (.inr y) = some v ∧ R (.inr y, v) (y, look rows y)
  | _, _, .nil, h => by cases h
  | (k, v) :: kvs, r :: rows, .cons h t, hy => by
    have e1 : k = Sum.inr r.1 := hR _ _ h
    subst e1
    rw [look_cons]
    by_cases e : r.1 = y
    · rw [if_pos e]
      subst e
      exact ⟨v, valV_pos rfl, h⟩
    · rw [if_neg e]
      rw [List.map_cons] at hy
      obtain ⟨v', h1, h2⟩ := paired_at hR t ((List.mem_cons.mp hy).resolve_left fun q => e q.symm)
      refine ⟨v', ?_, h2⟩
      unfold valV at h1 ⊢
      rw [List.find?_cons_of_neg (by simpa using e)]
      exact h1
theorem InVal.at {K : PySem.W.Frag} {H : Hp} {kvs : List (Key × V)} {rows : WRows} (h : InVal K H kvs rows) {y : Str} (hy : y ∈ rows.map (·.1)) : ∃ a, valV kvs (.inr y) = some (.ref a) ∧ (SqL K H a ((look rows y).map optV) ∨ SqT K H a ((look rows y).map optV)) := by
  obtain ⟨v, h1, _, a, e, h2⟩ := paired_at (fun _ _ q => q.1) h hy
  have e' : v = .ref a := e
  exact ⟨a, by rw [h1, e'], h2⟩
theorem WVal.at {H : Hp} {kvs : List (Key × V)} {rows : WRows} (h : WVal H kvs rows) {y : Str} (hy : y ∈ rows.map (·.1)) : ∃ a, valV kvs (.inr y) = some (.ref a) ∧ H a = some (.tup ((look rows y).map optV)) := by
  obtain ⟨v, h1, _, a, e, h2⟩ := paired_at (fun _ _ q => q.1) h hy
  have e' : v = .ref a := e
  exact ⟨a, by rw [h1, e'], h2⟩
theorem paired_put {R : Key × V → Str × List (Option Str) → Prop} (hR : ∀ kv r, R kv r → kv.1 = .inr r.1) {y : Str} {v : V} {l : List (Option Str)} (hv : R (.inr y, v) (y, l)) {kvs : List (Key × V)} {rows : WRows} (h : Paired R kvs rows) : Paired R (putK kvs (.inr y) v) (putR rows y l) := by
  have hk := paired_keys hR h
  by_cases hm : y ∈ rows.map (·.1)
  · have hm2 : (kvs.any fun kv => decide (kv.1 = Sum.inr y)) = true := by
      have : (Sum.inr y : Key) ∈ kvs.map (·.1) := by rw [hk]; exact List.mem_map.mpr ⟨y, hm, rfl⟩
      obtain ⟨p, hp, e⟩ := List.mem_map.mp this
      exact List.any_eq_true.mpr ⟨p, hp, decide_eq_true e⟩
    unfold putK putR
    rw [if_pos hm2, if_pos hm]
    clear hm hm2 hk
    induction h with
    | nil => exact .nil
    | cons q t ih =>
      rename_i kv r kvs rows
      refine .cons ?_ ih
      have e1 := hR _ _ q
      show R (if kv.1 = Sum.inr y then (kv.1, v) else kv) (if r.1 = y then (y, l) else r)
      by_cases e : r.1 = y
      · rw [if_pos (by rw [e1, e]), if_pos e, e1, e]
        exact hv
      · rw [if_neg (by rw [e1]; exact fun z => e (Sum.inr.inj z)), if_neg e]
        exact q
  · have hm2 : (Sum.inr y : Key) ∉ kvs.map (·.1) := by
      rw [hk, List.mem_map]
      rintro ⟨z, hz, e⟩
      exact hm (by rw [← Sum.inr.inj e]; exact hz)
    rw [putK_end hm2]
    unfold putR
    rw [if_neg hm]
    exact paired_app h (.cons hv .nil)
theorem paired_filt {R : Key × V → Str × List (Option Str) → Prop} (hR : ∀ kv r, R kv r → kv.1 = .inr r.1) (y : Str) : ∀ {kvs : List (Key × V)} {rows : WRows}, Paired R kvs rows → Paired R (kvs.filter fun kv => decide (kv.1 ≠ .inr y)) (rows.filter fun r => decide (r.1 ≠ y))
  | _, _, .nil => .nil
  | kv :: kvs, r :: rows, .cons h t => by
    have e1 := hR _ _ h
    by_cases e : r.1 = y
    · rw [List.filter_cons_of_neg (by rw [e1, e]; simp), List.filter_cons_of_neg (by simpa using e)]
      exact paired_filt hR y t
    · rw [List.filter_cons_of_pos (by rw [e1]; simpa using fun q => e q), List.filter_cons_of_pos (by simpa using e)]
      exact .cons h (paired_filt hR y t)
theorem look_filt {rows : WRows} {y z : Str} : look (rows.filter fun r => decide (r.1 ≠ y)) z = if z = y then [] else look rows z := by
  induction rows with
  | nil => split <;> rfl
  | cons r rows ih =>
    by_cases e : r.1 = y
    · rw [List.filter_cons_of_neg (by simpa using e), ih, look_cons]
      by_cases q : z = y
      · rw [if_pos q, if_pos q]
      · rw [if_neg q, if_neg q, if_neg fun e2 => q (e2.symm.trans e)]
    · rw [List.filter_cons_of_pos (by simpa using e), look_cons, ih, look_cons]
      by_cases q : r.1 = z
      · rw [if_pos q, if_pos q, if_neg fun e2 => e (q.trans e2)]
      · rw [if_neg q, if_neg q]
theorem filtR_keys {rows : WRows} {y : Str} : (rows.filter fun r => decide (r.1 ≠ y)).map (·.1) = (rows.map (·.1)).filter fun z => decide (z ≠ y) := by
  induction rows with
  | nil => rfl
  | cons r rows ih =>
    by_cases e : r.1 = y
    · rw [List.filter_cons_of_neg (by simpa using e), List.map_cons, List.filter_cons_of_neg (by simpa using e), ih]
    · rw [List.filter_cons_of_pos (by simpa using e), List.map_cons, List.map_cons, List.filter_cons_of_pos (by simpa using e), ih]
theorem RowsW.filt {t : Str → Bool} {w : Nat} {rows : WRows} (h : RowsW t w rows) (y : Str) : RowsW t w (rows.filter fun r => decide (r.1 ≠ y)) := by
  refine ⟨?_, fun r hr => h.ok r (List.mem_filter.mp hr).1⟩
  rw [filtR_keys]
  exact ⟨h.pfx.nd.filter _, fun x hx => h.pfx.bits x (List.mem_filter.mp hx).1, fun x hx => h.pfx.len x (List.mem_filter.mp hx).1⟩
/-- at x a wish, its rows at e -/
structure WishAt (C : Addr) (H : Hp) (x e : Addr) (w : Nat) (rows : WRows) : Prop where
  ob : ∃ dx, H x = some (.ins C dx (flds w e))
  dc : ∃ kvs, H e = some (.dK kvs) ∧ WVal H kvs rows
theorem WishAt.same {C : Addr} {H H' : Hp} {x e : Addr} {w : Nat} {rows : WRows} (s : Same H H') (h : WishAt C H x e w rows) : WishAt C H' x e w rows := by
  obtain ⟨⟨dx, h1⟩, kvs, h2, h3⟩ := h
  exact ⟨⟨dx, s _ _ h1⟩, kvs, s _ _ h2, h3.same s⟩
theorem WishAt.but {C : Addr} {H H' : Hp} {p x e : Addr} {w : Nat} {rows : WRows} {o : List V} (k : But p H H') (hp : H p = some (.lst o)) (h : WishAt C H x e w rows) : WishAt C H' x e w rows := by
  obtain ⟨⟨dx, h1⟩, kvs, h2, h3⟩ := h
  exact ⟨⟨dx, k _ _ (ne_of h1 hp (fun z => nomatch z)) h1⟩, kvs, k _ _ (ne_of h2 hp (fun z => nomatch z)) h2, h3.mono fun _ _ ⟨e, a, e2, ha⟩ => ⟨e, a, e2, k _ _ (ne_of ha hp (fun z => nomatch z)) ha⟩⟩
theorem WishAt.map {C : Addr} {H : Hp} {x e : Addr} {w : Nat} {rows : WRows} (h : WishAt C H x e w rows) : ∃ kvs, MapAt C H x e w kvs ∧ WVal H kvs rows := by
  obtain ⟨h1, kvs, h2, h3⟩ := h
  exact ⟨kvs, ⟨h1, h2⟩, h3⟩
/-- _checked of a list or tuple of different targets and None: a new tuple, in order -/
def spChkW (K : PySem.W.Frag) : Sp := fun vs H Q _ => ∃ (x a : Addr) (l : List (Option Str)), vs = [.ref x, .ref a] ∧ (SqL K H a (l.map optV) ∨ SqT K H a (l.map optV)) ∧ OkL isT l ∧ ∀ (t : Addr) (H' : Hp), Same H H' → H t = none → H' t = some (.tup ((ascO l).map optV)) → Q (.ref t) H'
def spInitW (K : PySem.W.Frag) (C : Addr) : Sp := fun vs H Q _ => ∃ (x dx d : Addr) (w : Nat) (kvs : List (Key × V)) (rows : WRows), vs = [.ref x, .int w, .ref d] ∧ H x = some (.ins C dx []) ∧ 1 ≤ w ∧ w ≤ 32 ∧ H d = some (.dK kvs) ∧ InVal K H kvs rows ∧ RowsW isT w rows ∧ rows.length < 64 ∧
  ∀ (e : Addr) (H' : Hp), H e = none → WishAt C H' x e w (sortW rows) → (∀ b o, H b = some o → b ≠ x → H' b = some o) → Q .non H'
def MadeW (C : Addr) (w : Nat) (rows : WRows) (H : Hp) (Q : VK) : Prop := ∀ (x e : Addr) (H' : Hp), H x = none → H e = none → Same H H' → WishAt C H' x e w (sortW rows) → Q (.ref x) H'
theorem MadeW.later {C : Addr} {w : Nat} {rows : WRows} {H H1 : Hp} {Q : VK} (s : Same H H1) (h : MadeW C w rows H Q) : MadeW C w rows H1 Q := fun x e H' nx ne s' hw => h x e H' (s.free nx) (s.free ne) (s.trans s') hw
def spMadeW (K : PySem.W.Frag) (C : Addr) : Sp := fun vs H Q _ => ∃ (d : Addr) (w : Nat) (kvs : List (Key × V)) (rows : WRows), vs = [.ref C, .int w, .ref d] ∧ 1 ≤ w ∧ w ≤ 32 ∧ H d = some (.dK kvs) ∧ InVal K H kvs rows ∧ RowsW isT w rows ∧ rows.length < 64 ∧ MadeW C w rows H Q
def spWithW (K : PySem.W.Frag) (C : Addr) : Sp := fun vs H Q _ => ∃ (x e : Addr) (w : Nat) (rows : WRows) (y : Str) (a : Addr) (l : List (Option Str)), vs = [.ref x, .str y, .ref a] ∧ WishAt C H x e w rows ∧ RowsW isT w rows ∧ 1 ≤ w ∧ w ≤ 32 ∧ isBits y = true ∧ y.length ≤ w ∧ (SqL K H a (l.map optV) ∨ SqT K H a (l.map optV)) ∧ OkL isT l ∧ rows.length < 60 ∧ MadeW C w (putR rows y l) H Q
def spWithoutW (K : PySem.W.Frag) (C : Addr) : Sp := fun vs H Q _ => ∃ (x e : Addr) (w : Nat) (rows : WRows) (y : Str), vs = [.ref x, .str y] ∧ WishAt C H x e w rows ∧ RowsW isT w rows ∧ 1 ≤ w ∧ w ≤ 32 ∧ y ∈ rows.map (·.1) ∧ rows.length < 60 ∧ MadeW C w (rows.filter fun r => decide (r.1 ≠ y)) H Q
/-- what an address is allowed -/
def spAllowed (C : Addr) : Sp := fun vs H Q _ => ∃ (x e : Addr) (w : Nat) (rows : WRows) (y : Str), vs = [.ref x, .str y] ∧ WishAt C H x e w rows ∧ isBits y = true ∧ y.length = w ∧ w ≤ 32 ∧
  ∀ r : Option Str, IsLong (rows.map (·.1)) y r → (∀ z, r = some z → ∀ a, H a = some (.tup ((look rows z).map optV)) → Q (.ref a) H) ∧ (r = none → Q (.str "any") H)
/-- the set of what a row allows -/
def keyO (o : Option Str) : NK := o.map Sum.inr
theorem keyO_val (o : Option Str) : nkV (keyO o) = optV o := by cases o <;> rfl
theorem keyO_inj {a b : Option Str} (h : keyO a = keyO b) : a = b := by
  cases a <;> cases b
  · rfl
  · cases h
  · cases h
  · exact congrArg some (Sum.inr.inj (Option.some.inj h))
theorem map_keyO (l : List (Option Str)) : (l.map keyO).map nkV = l.map optV := by
  rw [List.map_map]
  exact List.map_congr_left fun o _ => keyO_val o
theorem none_in : ∀ l : List (Option Str), inV .non (l.map optV) = decide (none ∈ l)
  | [] => rfl
  | o :: l => by
    have e : inV .non ((o :: l).map optV) = (eqV (optV o) .non || inV .non (l.map optV)) := rfl
    rw [e, none_in l]
    cases o with
    | none =>
      rw [show eqV (optV none) .non = true from rfl, Bool.true_or]
      exact (decide_eq_true List.mem_cons_self).symm
    | some x =>
      rw [show eqV (optV (some x)) .non = false from rfl, Bool.false_or]
      refine decide_eq_decide.mpr ⟨List.mem_cons_of_mem _, fun h => (List.mem_cons.mp h).resolve_left fun e => nomatch e⟩
theorem flat_opt (l : List (Option Str)) : (l.map optV).all flatV = true := by
  rw [List.all_map]
  exact List.all_eq_true.mpr fun o _ => by cases o <;> rfl
abbrev sG : Stmt := sTgt
abbrev sK : Stmt := sTChk
abbrev sU : Stmt := sInit
abbrev sT : Stmt := sTInit
abbrev sKN : Stmt := sChk

theorem ty_list {K : PySem.W.Frag} {H : Hp} {a : Addr} {xs : List V} (h : SqL K H a xs) : TyX K H (.ref a) (.type "list") := by
  rcases h with (h | ⟨o, h⟩) | ⟨o, _, _, h, hc, _⟩
  · exact .base (.lst h)
  · exact .base (.frz h)
  · exact .kList h hc
theorem ty_tuple {K : PySem.W.Frag} {H : Hp} {a : Addr} {xs : List V} (h : SqT K H a xs) : TyX K H (.ref a) (.type "tuple") := by
  rcases h with (h | ⟨o, h⟩) | ⟨o, _, _, h, hc, _⟩
  · exact .base (.tup h)
  · exact .fTuple h
  · exact .kTuple h hc
theorem kit2_list {K : PySem.W.Frag} : PySem.W.kitAny K (.type "list") [.type "list", .type "tuple"] = some true := by
  unfold PySem.W.kitAny
  rw [kitv (K := K) (t := "list") (c := "list") (b := true) (by decide +kernel)]
theorem kit2_tuple {K : PySem.W.Frag} : PySem.W.kitAny K (.type "tuple") [.type "list", .type "tuple"] = some true := by
  unfold PySem.W.kitAny
  rw [kitv (K := K) (t := "tuple") (c := "list") (b := false) (by decide +kernel)]
  show PySem.W.kitAny K (.type "tuple") [.type "tuple"] = some true
  unfold PySem.W.kitAny
  rw [kitv (K := K) (t := "tuple") (c := "tuple") (b := true) (by decide +kernel)]
theorem asc_map {l : List (Option Str)} {ys : List Str} (p : ys.Perm (l.filterMap id)) (up : sortedS ys = true) : (ascO l).map optV = (if none ∈ l then [V.non] else []) ++ ys.map V.str := by
  rw [sortS_of p up]
  unfold ascO
  rw [List.map_append, List.map_map]
  congr 1
  split <;> rfl
abbrev sWK : Stmt := inClass (top 16) 2
section
variable {P : Program} {w : World} {K : PySem.W.Frag} {mg : Str → Option Value} {base : Heap}
abbrev NWK : List Str := ["self", "value", "target", "named"]
theorem scWK : FnScope NWK ["self", "value"] (defScope sWK) := ⟨rfl, rfl, rfl, by decide +kernel, rfl, by decide +kernel, by decide +kernel⟩
set_option maxHeartbeats 8000000 in
theorem ok_WK {f fG pG CC : Addr} {fd fdG : FuncData} {k : Nat} (F : Fun K "_checked" "Wish._checked" sWK f fd)
    (m_tuple : mg "tuple" = none)
    (m_list : mg "list" = none)
    (m_isinstance : mg "isinstance" = none)
    (gC : mg "Table" = some (.ref CC))
    (RCC : ClX.CRead K CC (.type "type"))
    (GG : FnOk P w K mg base CX0 k fG fdG ["thing"] (spTgt K))
    (csG : CSta K CC (.type "type") "is_target" pG fG) (bG : Binds K fdG ["thing"] [])
    (m_set : mg "set" = none)
    (m_len : mg "len" = none)
    (m_sorted : mg "sorted" = none)
    : FnOk P w K mg base CX0 (k + 1) f fd ["self", "value"] (spChkW K) := by
  refine F.ok scWK (fun vs H Q E h => ?_) (fun cdv A outer s H vs Q E hr h => ?_)
  · obtain ⟨x, a, l, rfl, _⟩ := h
    rfl
  · obtain ⟨x, a, l, rfl, hin, ok, q⟩ := h
    have nd := scWK.nd
    have hu := hr.units
    have hu1 := hu_of hr
    have hr1 := hr
    rcases hin with hin | hin
    · refine ⟨_, pss_cons (ps_if (pt_not (pt_val (pe_callB call_isiT (by rfl) m_isinstance (by decide +kernel) (pa_cons (pv 1) (pa_cons (pe_tup (pa_cons (pe_bltn (v := .ty "list") (by rfl) m_list (by decide +kernel) rfl) (pa_cons (pe_bltn (v := .ty "tuple") (by rfl) m_tuple (by decide +kernel) rfl) pa_nil))) pa_nil)))))
            (pss_one ps_never) pss_nil)
          (pss_cons (ps_for PassesOwn.never rfl (pi_list (pv 1)) (pg_name (i := 2) nd rfl (.inl rfl))
            (pss_one (ps_if (PW.pt (pw_and (pt_cmpR op_notN (pv 2) pe_non (nomark _)) (pw_and1 (pt_not (pt_val (pe_cstat (pe_glob (v := .ref CC) rfl gC rfl) RCC csG GG hr1 bG (pa_cons (pv 2) pa_nil)))))))
              (pss_one ps_never) pss_nil)))
          (pss_cons (ps_if (pt_cmpR op_ne (pe_callB cr_lenN (by rfl) m_len (by decide +kernel) (pa_cons (pe_callTy (cr_setN rfl) (by rfl) m_set (by decide +kernel) (pa_cons (pv 1) pa_nil)) pa_nil)) (pe_callB call_len_seq (by rfl) m_len (by decide +kernel) (pa_cons (pv 1) pa_nil)) (nomark _))
            (pss_one ps_never) pss_nil)
          (pss_cons (ps_set (i := 3) nd rfl (.inl rfl) (pe_callB cr_sortedS (by rfl) m_sorted (by decide +kernel) (pa_cons (pe_lc (own := [("target", 2)]) (g := gName 2) rfl nd (pi_list (pv 1)) (blkOk_by (N := NWK) (sc := defScope sWK) (by decide +kernel)) (fun _ _ _ _ _ => pg_name (i := 2) nd rfl (.inl rfl)) (fun _ _ _ _ _ => pts_one (pt_cmpR op_notN (pv 2) pe_non (nomark _))) (fun _ _ _ _ _ => (pv 2))) pa_nil)))
          (pss_cons (ps_if (pt_cmpR op_in_seq pe_non (pv 1) (by rfl))
            (pss_one (ps_ret (pe_tup (pa_cons pe_non (StX.pa_star (pv 3) pa_nil))))) pss_nil)
          (pss_one (ps_ret (pe_callTy call_tuple_of (by rfl) m_tuple (by decide +kernel) (pa_cons (pv 3) pa_nil)))))))), ?_⟩
      refine ⟨.ref a, rfl, by show 2 ≤ sizeLine; decide, fun t1 nt1 => ?_⟩
      have s1 := same_upd (o := .tup [.ty "list", .ty "tuple"]) nt1
      have hin1 := s1.seq hin
      refine ⟨.ref a, t1, [.ty "list", .ty "tuple"], .type "list", [.type "list", .type "tuple"], true, rfl, upd_same, .cons (.ty _) (.cons (.ty _) .nil), ty_list hin1, kit2_list, _, rfl, iteF ?_⟩
      revert s1 hin1
      generalize upd H t1 (.tup [.ty "list", .ty "tuple"]) = H1
      intro s1 hin1
      refine ⟨.ref a, rfl, a, rfl, ⟨_, hin1⟩, for_list (K := K) (a := a) (xs := l.map optV) (fun _ σ H' => (∃ x2, σ = [some (.ref x), some (.ref a), x2, none]) ∧ H' = H1) ⟨⟨_, rfl⟩, rfl⟩ (fun _ _ _ _ h => by rw [h.2]; exact hin1) ?_ ?_⟩
      · rintro i v σ H' hv ⟨⟨x2, rfl⟩, rfl⟩
        rw [List.getElem?_map] at hv
        obtain ⟨o, ho, rfl⟩ := Option.map_eq_some_iff.mp hv
        have hto := ok.tg o (List.mem_of_getElem? ho)
        cases o with
        | none => exact ⟨.non, rfl, rfl, _, rfl, iteF ⟨⟨_, rfl⟩, rfl⟩⟩
        | some z =>
          have hz : isTgtV (.str z) := hto
          obtain ⟨z', ez, hz8, _⟩ := tgt_str hz
          have ez' := V.str.inj ez
          subst ez'
          refine ⟨.str z, rfl, rfl, _, rfl, iteT ⟨rfl, .str z, rfl, .str z, rfl, TyS.of (N := fun _ => True) (.str z), fun u e => by rw [← V.str.inj e]; exact big_of (by omega), _, rfl, ?_⟩⟩
          rw [show isTgt (.str z) = true from hz]
          exact iteF ⟨⟨_, rfl⟩, rfl⟩
      · rintro σ H' ⟨⟨x2, rfl⟩, rfl⟩
        have few := ok.few
        refine ⟨.ref a, rfl, a, l.map keyO, rfl, .inl (by rw [map_keyO]; exact hin1), by rw [List.length_map]; omega, fun p ks np knd kmem klen => ?_⟩
        have s2 := same_upd (o := NxO w p ks) np
        have kl : ks.length = l.length := by
          have e := (List.perm_ext_iff_of_nodup knd (ok.nd.map keyO fun a b h e => h (keyO_inj e))).mpr kmem
          rw [e.length_eq, List.length_map]
        have hin2 := s2.seq hin1
        refine ⟨p, ks, rfl, upd_same, .ref a, rfl, a, l.map optV, rfl, .inl hin2, rfl, _, rfl, ?_⟩
        rw [List.length_map, kl]
        refine iteNS rfl ?_
        have s12 := s1.trans s2
        -- the targets, in order
        refine ⟨.ref a, rfl, a, rfl, ⟨_, hin2⟩, fun D nD => ?_⟩
        refine lc_it walk_list (fun i Hx => Hx D = some (.lst (((l.take i).filterMap id).map V.str)) ∧ Same (upd H' p (NxO w p ks)) Hx) ⟨upd_same, same_upd nD⟩ (fun _ _ _ h => by have s9 := h.2; exact s9.seq hin2) ?_ ?_
        · rintro i v H3 H4 hi ⟨hD, s4⟩ ⟨rfl, hv⟩
          rw [List.getElem?_map] at hv
          obtain ⟨o, ho, rfl⟩ := Option.map_eq_some_iff.mp hv
          have et : l.take (i + 1) = l.take i ++ [o] := by rw [List.take_add_one, ho]; rfl
          cases o with
          | none =>
            refine ⟨rfl, .non, rfl, rfl, _, rfl, iteF ⟨?_, s4⟩⟩
            rw [et, List.filterMap_append]
            show H4 D = some (.lst (((l.take i).filterMap id ++ []).map V.str))
            rw [List.append_nil]
            exact hD
          | some z =>
            refine ⟨rfl, .str z, rfl, rfl, _, rfl, iteT ⟨.str z, rfl, _, hD, ?_, ?_, fun b o eb => ?_⟩⟩
            · refine big_lt ?_
              have := filt_len (l.take i)
              rw [List.length_take] at this
              rw [List.length_map]
              omega
            · rw [upd_same, et, List.filterMap_append, List.map_append]
              rfl
            · rw [upd_ne (ne_of_none eb nD)]
              exact s4 b o eb
        · rintro H3 ⟨hD, s4⟩
          rw [List.length_map, List.take_of_length_le (Nat.le_refl _)] at hD
          have fl := filt_len l
          refine ⟨D, l.filterMap id, rfl, SqL.of hD, by omega, fun ys N perm up nN => ?_⟩
          have s5 := same_upd (o := .lst (ys.map V.str)) nN
          have hN : (upd H3 N (.lst (ys.map V.str))) N = some (.lst (ys.map V.str)) := upd_same
          have s15 := s12.trans (s4.trans s5)
          have hin5 := s15.seq hin
          have yl := perm.length_eq
          refine ⟨.ref a, rfl, a, _, rfl, .inl hin5, rfl, flat_opt l, _, rfl, ?_⟩
          have em := asc_map perm up
          show if inV .non (l.map optV) = true then _ else _
          rw [none_in]
          refine ite2 (fun h => ?_) (fun h => ?_)
          · have h' : none ∈ l := of_decide_eq_true h
            rw [if_pos h'] at em
            refine ⟨.ref N, rfl, N, _, rfl, .inr (SqL.of hN), big_of (by show (ys.map V.str ++ []).length + 1 ≤ 1000; rw [List.append_nil, List.length_map]; omega), fun t nt => ?_⟩
            refine q t _ (s15.trans (same_upd nt)) (s15.free nt) ?_
            rw [upd_same, em, List.append_nil]
            rfl
          · have h' : none ∉ l := fun q => h (decide_eq_true q)
            rw [if_neg h'] at em
            refine ⟨.ref N, rfl, N, _, rfl, .inl ⟨SqL.of hN, fun t nt => ?_⟩⟩
            refine q t _ (s15.trans (same_upd nt)) (s15.free nt) ?_
            rw [upd_same, em]
            rfl
    · refine ⟨_, pss_cons (ps_if (pt_not (pt_val (pe_callB call_isiT (by rfl) m_isinstance (by decide +kernel) (pa_cons (pv 1) (pa_cons (pe_tup (pa_cons (pe_bltn (v := .ty "list") (by rfl) m_list (by decide +kernel) rfl) (pa_cons (pe_bltn (v := .ty "tuple") (by rfl) m_tuple (by decide +kernel) rfl) pa_nil))) pa_nil)))))
            (pss_one ps_never) pss_nil)
          (pss_cons (ps_for PassesOwn.never rfl (pi_tup (pv 1)) (pg_name (i := 2) nd rfl (.inl rfl))
            (pss_one (ps_if (PW.pt (pw_and (pt_cmpR op_notN (pv 2) pe_non (nomark _)) (pw_and1 (pt_not (pt_val (pe_cstat (pe_glob (v := .ref CC) rfl gC rfl) RCC csG GG hr1 bG (pa_cons (pv 2) pa_nil)))))))
              (pss_one ps_never) pss_nil)))
          (pss_cons (ps_if (pt_cmpR op_ne (pe_callB cr_lenN (by rfl) m_len (by decide +kernel) (pa_cons (pe_callTy (cr_setN rfl) (by rfl) m_set (by decide +kernel) (pa_cons (pv 1) pa_nil)) pa_nil)) (pe_callB call_len_seq (by rfl) m_len (by decide +kernel) (pa_cons (pv 1) pa_nil)) (nomark _))
            (pss_one ps_never) pss_nil)
          (pss_cons (ps_set (i := 3) nd rfl (.inl rfl) (pe_callB cr_sortedS (by rfl) m_sorted (by decide +kernel) (pa_cons (pe_lc (own := [("target", 2)]) (g := gName 2) rfl nd (pi_tup (pv 1)) (blkOk_by (N := NWK) (sc := defScope sWK) (by decide +kernel)) (fun _ _ _ _ _ => pg_name (i := 2) nd rfl (.inl rfl)) (fun _ _ _ _ _ => pts_one (pt_cmpR op_notN (pv 2) pe_non (nomark _))) (fun _ _ _ _ _ => (pv 2))) pa_nil)))
          (pss_cons (ps_if (pt_cmpR op_in_seq pe_non (pv 1) (by rfl))
            (pss_one (ps_ret (pe_tup (pa_cons pe_non (StX.pa_star (pv 3) pa_nil))))) pss_nil)
          (pss_one (ps_ret (pe_callTy call_tuple_of (by rfl) m_tuple (by decide +kernel) (pa_cons (pv 3) pa_nil)))))))), ?_⟩
      refine ⟨.ref a, rfl, by show 2 ≤ sizeLine; decide, fun t1 nt1 => ?_⟩
      have s1 := same_upd (o := .tup [.ty "list", .ty "tuple"]) nt1
      have hin1 := SqT.same s1 hin
      refine ⟨.ref a, t1, [.ty "list", .ty "tuple"], .type "tuple", [.type "list", .type "tuple"], true, rfl, upd_same, .cons (.ty _) (.cons (.ty _) .nil), ty_tuple hin1, kit2_tuple, _, rfl, iteF ?_⟩
      revert s1 hin1
      generalize upd H t1 (.tup [.ty "list", .ty "tuple"]) = H1
      intro s1 hin1
      refine ⟨.ref a, rfl, a, rfl, ⟨_, hin1⟩, for_tup (K := K) (a := a) (xs := l.map optV) (fun _ σ H' => (∃ x2, σ = [some (.ref x), some (.ref a), x2, none]) ∧ H' = H1) ⟨⟨_, rfl⟩, rfl⟩ (fun _ _ _ _ h => by rw [h.2]; exact hin1) ?_ ?_⟩
      · rintro i v σ H' hv ⟨⟨x2, rfl⟩, rfl⟩
        rw [List.getElem?_map] at hv
        obtain ⟨o, ho, rfl⟩ := Option.map_eq_some_iff.mp hv
        have hto := ok.tg o (List.mem_of_getElem? ho)
        cases o with
        | none => exact ⟨.non, rfl, rfl, _, rfl, iteF ⟨⟨_, rfl⟩, rfl⟩⟩
        | some z =>
          have hz : isTgtV (.str z) := hto
          obtain ⟨z', ez, hz8, _⟩ := tgt_str hz
          have ez' := V.str.inj ez
          subst ez'
          refine ⟨.str z, rfl, rfl, _, rfl, iteT ⟨rfl, .str z, rfl, .str z, rfl, TyS.of (N := fun _ => True) (.str z), fun u e => by rw [← V.str.inj e]; exact big_of (by omega), _, rfl, ?_⟩⟩
          rw [show isTgt (.str z) = true from hz]
          exact iteF ⟨⟨_, rfl⟩, rfl⟩
      · rintro σ H' ⟨⟨x2, rfl⟩, rfl⟩
        have few := ok.few
        refine ⟨.ref a, rfl, a, l.map keyO, rfl, .inr (by rw [map_keyO]; exact hin1), by rw [List.length_map]; omega, fun p ks np knd kmem klen => ?_⟩
        have s2 := same_upd (o := NxO w p ks) np
        have kl : ks.length = l.length := by
          have e := (List.perm_ext_iff_of_nodup knd (ok.nd.map keyO fun a b h e => h (keyO_inj e))).mpr kmem
          rw [e.length_eq, List.length_map]
        have hin2 := SqT.same s2 hin1
        refine ⟨p, ks, rfl, upd_same, .ref a, rfl, a, l.map optV, rfl, .inr hin2, rfl, _, rfl, ?_⟩
        rw [List.length_map, kl]
        refine iteNS rfl ?_
        have s12 := s1.trans s2
        -- the targets, in order
        refine ⟨.ref a, rfl, a, rfl, ⟨_, hin2⟩, fun D nD => ?_⟩
        refine lc_it walk_tup (fun i Hx => Hx D = some (.lst (((l.take i).filterMap id).map V.str)) ∧ Same (upd H' p (NxO w p ks)) Hx) ⟨upd_same, same_upd nD⟩ (fun _ _ _ h => by have s9 := h.2; exact SqT.same s9 hin2) ?_ ?_
        · rintro i v H3 H4 hi ⟨hD, s4⟩ ⟨rfl, hv⟩
          rw [List.getElem?_map] at hv
          obtain ⟨o, ho, rfl⟩ := Option.map_eq_some_iff.mp hv
          have et : l.take (i + 1) = l.take i ++ [o] := by rw [List.take_add_one, ho]; rfl
          cases o with
          | none =>
            refine ⟨rfl, .non, rfl, rfl, _, rfl, iteF ⟨?_, s4⟩⟩
            rw [et, List.filterMap_append]
            show H4 D = some (.lst (((l.take i).filterMap id ++ []).map V.str))
            rw [List.append_nil]
            exact hD
          | some z =>
            refine ⟨rfl, .str z, rfl, rfl, _, rfl, iteT ⟨.str z, rfl, _, hD, ?_, ?_, fun b o eb => ?_⟩⟩
            · refine big_lt ?_
              have := filt_len (l.take i)
              rw [List.length_take] at this
              rw [List.length_map]
              omega
            · rw [upd_same, et, List.filterMap_append, List.map_append]
              rfl
            · rw [upd_ne (ne_of_none eb nD)]
              exact s4 b o eb
        · rintro H3 ⟨hD, s4⟩
          rw [List.length_map, List.take_of_length_le (Nat.le_refl _)] at hD
          have fl := filt_len l
          refine ⟨D, l.filterMap id, rfl, SqL.of hD, by omega, fun ys N perm up nN => ?_⟩
          have s5 := same_upd (o := .lst (ys.map V.str)) nN
          have hN : (upd H3 N (.lst (ys.map V.str))) N = some (.lst (ys.map V.str)) := upd_same
          have s15 := s12.trans (s4.trans s5)
          have hin5 := SqT.same s15 hin
          have yl := perm.length_eq
          refine ⟨.ref a, rfl, a, _, rfl, .inr hin5, rfl, flat_opt l, _, rfl, ?_⟩
          have em := asc_map perm up
          show if inV .non (l.map optV) = true then _ else _
          rw [none_in]
          refine ite2 (fun h => ?_) (fun h => ?_)
          · have h' : none ∈ l := of_decide_eq_true h
            rw [if_pos h'] at em
            refine ⟨.ref N, rfl, N, _, rfl, .inr (SqL.of hN), big_of (by show (ys.map V.str ++ []).length + 1 ≤ 1000; rw [List.append_nil, List.length_map]; omega), fun t nt => ?_⟩
            refine q t _ (s15.trans (same_upd nt)) (s15.free nt) ?_
            rw [upd_same, em, List.append_nil]
            rfl
          · have h' : none ∉ l := fun q => h (decide_eq_true q)
            rw [if_neg h'] at em
            refine ⟨.ref N, rfl, N, _, rfl, .inl ⟨SqL.of hN, fun t nt => ?_⟩⟩
            refine q t _ (s15.trans (same_upd nt)) (s15.free nt) ?_
            rw [upd_same, em]
            rfl
end
abbrev sWU : Stmt := inClass (top 10) 0
section
variable {P : Program} {w : World} {K : PySem.W.Frag} {mg : Str → Option Value} {base : Heap}
abbrev NWU : List Str := ["self", "width", "rows", "prefix"]
theorem scWU : FnScope NWU ["self", "width", "rows"] (defScope sWU) := ⟨rfl, rfl, rfl, by decide +kernel, rfl, by decide +kernel, by decide +kernel⟩
set_option maxHeartbeats 8000000 in
theorem ok_WU {f fV fI fWK CW : Addr} {fd fdV fdI fdWK : FuncData} {k : Nat} (F : Fun K "__init__" "PrefixMap.__init__" sWU f fd)
    (GV : FnOk P w K mg base CX0 k fV fdV ["thing"] (spWidth K))
    (FV : Fun K "is_width" "is_width" sV fV fdV) (bV : Binds K fdV ["thing"] []) (gV : mg "is_width" = some (.ref fV))
    (m_dict : mg "dict" = none)
    (m_isinstance : mg "isinstance" = none)
    (GI : FnOk P w K mg base CX0 k fI fdI ["thing", "width"] (spPfx K))
    (FI : Fun K "is_prefix" "is_prefix" sI fI fdI) (bI : Binds K fdI ["thing", "width"] []) (gI : mg "is_prefix" = some (.ref fI))
    (clW : Cls K CW)
    (nW_width : NoAttr K CW "_width")
    (m_sorted : mg "sorted" = none)
    (GWK : FnOk P w K mg base CX0 k fWK fdWK ["self", "value"] (spChkW K))
    (mtWK : Meth K CW "_checked" fWK) (bWK : Binds K fdWK ["self", "value"] [])
    (nW_rows : NoAttr K CW "_rows")
    : FnOk P w K mg base CX0 (k + 1) f fd ["self", "width", "rows"] (spInitW K CW) := by
  refine F.ok scWU (fun vs H Q E h => ?_) (fun cdv A outer s H vs Q E hr h => ?_)
  · obtain ⟨x, dx, d, w, kvs, rows, rfl, _⟩ := h
    rfl
  · obtain ⟨x, dx, d, w, kvs, rows, rfl, hx, w1, w32, hd, hin, ok, few, q⟩ := h
    have nd := scWU.nd
    have hu := hr.units
    have hu1 := hu_of hr
    have hr1 := hr
    refine ⟨_, pss_cons (ps_if (pt_not (pt_val (pe_call GV hr1 (by rfl) gV FV.kp bV .nil pass0 (pa_cons (pv 1) pa_nil))))
        (pss_one ps_never) pss_nil)
      (pss_cons (ps_if (pt_not (pt_val (pe_callB call_isi (by rfl) m_isinstance (by decide +kernel) (pa_cons (pv 2) (pa_cons (pe_bltn (v := .ty "dict") (by rfl) m_dict (by decide +kernel) rfl) pa_nil)))))
        (pss_one ps_never) pss_nil)
      (pss_cons (ps_lock (ps_for PassesOwn.never rfl (pi_keys (pv 2)) (pg_name (i := 3) nd rfl (.inl rfl))
        (pss_one (ps_if (pt_not (pt_val (pe_call GI hr1 (by rfl) gI FI.kp bI .nil pass0 (pa_cons (pv 3) (pa_cons (pv 1) pa_nil)))))
          (pss_one ps_never) pss_nil))))
      (pss_cons (ps_fld (pv 0) (pv 1) rfl)
      (pss_one (ps_fld (pv 0) (pe_dc (own := [("prefix", 3)]) (g := gName 3) (tt := tYes) rfl nd (pi_list (pe_callB (call_sortedD rfl) (by rfl) m_sorted (by decide +kernel) (pa_cons (pv 2) pa_nil))) (blkOk_by (N := NWU) (sc := defScope sWU) (by decide +kernel)) (fun _ _ _ _ _ => pg_name (i := 3) nd rfl (.inl rfl)) (fun _ _ _ _ _ => pts_nil) (fun _ _ _ _ _ => (pv 3)) (fun _ _ _ _ _ => (pe_meth (pv 0) clW mtWK GWK hr1 bWK .nil pass0 (pa_cons (pe_dget hu1 (pv 2) (pv 3) (fun _ _ => rfl)) pa_nil)))) rfl))))), ?_⟩
    -- the width
    obtain ⟨t, ht⟩ := TyI.of (K := K) (H := H) (N := fun _ => True) (.int (w : Int))
    refine ⟨.int w, rfl, .int w, t, rfl, ht, _, rfl, ?_⟩
    have hw : isWidthV (.int (w : Int)) = true := by
      show (decide ((1 : Int) ≤ w) && decide ((w : Int) ≤ 32)) = true
      rw [decide_eq_true (by omega), decide_eq_true (by omega)]
      rfl
    rw [hw]
    refine iteF ?_
    refine ⟨.ref d, rfl, .ref d, .ty "dict", .type "dict", .type "dict", _, rfl, .ty _, .base (.dK hd), kitv (b := true) (by decide +kernel), _, rfl, iteF ?_⟩
    have hkeys := hin.keys
    -- its prefixes
    refine ⟨d, .dK kvs, hd, trivial, fun od => ?_⟩
    refine ⟨.ref d, rfl, d, od, rfl, .inl ⟨kvs, upd_same, ?_⟩⟩
    refine for_it walk_keys (fun _ σ H' => (∃ x3, σ = [some (.ref x), some (.int w), some (.ref d), x3]) ∧ H' = upd H d (.frz od (.dK kvs))) ⟨⟨_, rfl⟩, rfl⟩ (fun _ _ _ _ h => by rw [h.2, upd_same]) ?_ ?_
    · rintro i v σ H1 H2 hi ⟨⟨x3, rfl⟩, rfl⟩ ⟨rfl, k, v', hkv, rfl⟩
      obtain ⟨y, hy, rfl⟩ := key_at hkeys hkv
      have hym := List.mem_of_getElem? hy
      refine ⟨.str y, rfl, .int w, rfl, .str y, w, rfl, TyS.of (N := fun _ => True) (.str y), fun z e => ?_, _, rfl, ?_⟩
      · rw [← V.str.inj e]
        exact Nat.le_trans (ok.pfx.len y hym) (Nat.le_trans w32 (by decide))
      have e : isPfx (.str y) (w : Int) = true := by
        show (decide ((y.length : Int) ≤ w) && isBits y) = true
        rw [decide_eq_true (by have := ok.pfx.len y hym; omega), ok.pfx.bits y hym]
        rfl
      rw [e]
      exact iteF ⟨⟨_, rfl⟩, rfl⟩
    · rintro σ H1 ⟨⟨x3, rfl⟩, rfl⟩
      refine ⟨upd_same, ?_⟩
      rw [upd_back hd]
      refine ⟨.int w, rfl, .ref x, rfl, x, CW, dx, [], rfl, hx, clW, nW_width, (by show 0 < 1000; decide), ?_⟩
      have ndx : d ≠ x := ne_of hd hx (fun e => nomatch e)
      have hdW : (upd H x (.ins CW dx (putF "_width" (.int w) []))) d = some (.dK kvs) := by rw [upd_ne ndx]; exact hd
      refine ⟨.ref d, rfl, d, kvs, rows.map (·.1), rfl, .inl hdW, hkeys, by rw [List.length_map]; exact few, fun ys l hperm hup nl => ?_⟩
      have eys := sortS_of hperm hup
      have hll : (upd (upd H x (.ins CW dx (putF "_width" (.int w) []))) l (.lst (ys.map V.str))) l = some (.lst (ys.map V.str)) := upd_same
      have s1 := same_upd (o := .lst (ys.map V.str)) nl
      have hx1 := s1 _ _ (upd_same (H := H) (a := x) (o := .ins CW dx (putF "_width" (.int w) [])))
      have hd1 := s1 _ _ hdW
      have old1 : ∀ b o, H b = some o → b ≠ x → (upd (upd H x (.ins CW dx (putF "_width" (.int w) []))) l (.lst (ys.map V.str))) b = some o := fun b o e nb => s1 b o (by rw [upd_ne nb]; exact e)
      have hin1 : InVal K (upd (upd H x (.ins CW dx (putF "_width" (.int w) []))) l (.lst (ys.map V.str))) kvs rows := hin.mono fun kv r ⟨e, a, e2, ha⟩ => by
        have nax : (SqL K H a (r.2.map optV) ∨ SqT K H a (r.2.map optV)) → SqL K (upd H x (.ins CW dx (putF "_width" (.int w) []))) a (r.2.map optV) ∨ SqT K (upd H x (.ins CW dx (putF "_width" (.int w) []))) a (r.2.map optV) := fun h => by
          rcases h with ((h | ⟨o, h⟩) | h) | ((h | ⟨o, h⟩) | h)
          · exact .inl (.inl (.inl (by rw [upd_ne (ne_of h hx (fun z => nomatch z))]; exact h)))
          · exact .inl (.inl (.inr ⟨o, by rw [upd_ne (ne_of h hx (fun z => nomatch z))]; exact h⟩))
          · exact .inl (.inr h)
          · exact .inr (.inl (.inl (by rw [upd_ne (ne_of h hx (fun z => nomatch z))]; exact h)))
          · exact .inr (.inl (.inr ⟨o, by rw [upd_ne (ne_of h hx (fun z => nomatch z))]; exact h⟩))
          · exact .inr (.inr h)
        exact ⟨e, a, e2, SqO.same s1 (nax ha)⟩
      revert hll hx1 hd1 old1 hin1
      generalize upd (upd H x (.ins CW dx (putF "_width" (.int w) []))) l (.lst (ys.map V.str)) = H2
      intro hll hx1 hd1 old1 hin1
      refine ⟨l, rfl, ⟨_, SqL.of hll⟩, fun G nG => ?_⟩
      have nxG : x ≠ G := ne_of_none hx1 nG
      have ynd : ys.Nodup := hperm.nodup_iff.mpr ok.pfx.nd
      refine dc_it walk_list (fun i H' => ∃ kvs', H' G = some (.dK kvs') ∧ WVal H' kvs' ((ys.take i).map fun y => (y, ascO (look rows y))) ∧ ∀ b o, H2 b = some o → H' b = some o) ⟨[], upd_same, .nil, fun b o e => by rw [upd_ne (ne_of_none e nG)]; exact e⟩
        (fun _ H' _ h => by obtain ⟨_, _, _, k⟩ := h; exact SqL.of (k _ _ hll)) ?_ ?_
      · rintro i v H3 H4 hi ⟨kvs', hG, hv, keep⟩ ⟨rfl, hvi⟩
        rw [List.getElem?_map] at hvi
        have hil : i < ys.length := by rw [List.length_map] at hi; exact hi
        rw [List.getElem?_eq_getElem hil] at hvi
        obtain rfl : V.str ys[i] = v := Option.some.inj hvi
        have hym : ys[i] ∈ rows.map (·.1) := hperm.mem_iff.mp (List.getElem_mem hil)
        obtain ⟨a, hva, hsa⟩ := hin1.at hym
        refine ⟨rfl, yes_if ?_⟩
        refine ⟨.str ys[i], rfl, .ref x, rfl, x, dx, _, rfl, keep _ _ hx1, ?_, .ref d, rfl, .str ys[i], rfl, d, .ref a, rfl, by rw [← hva]; exact DGet.k (k := .inr ys[i]) (keep _ _ hd1), ?_⟩
        · rw [lookup_putF, if_neg (by decide +kernel)]
          rfl
        refine ⟨x, a, look rows ys[i], rfl, SqO.same keep hsa, ok.ok _ (look_at hym), fun t H5 s5 nt ht => ?_⟩
        have hG5 := s5 _ _ hG
        have kl : kvs'.length ≤ ys.length := by
          have e := congrArg List.length hv.keys
          rw [List.length_map, List.length_map, List.length_map, List.length_map, List.length_take] at e
          omega
        have hp := hperm.length_eq
        rw [List.length_map] at hp
        have et : (ys.take (i + 1)) = ys.take i ++ [ys[i]] := by rw [List.take_add_one, List.getElem?_eq_getElem hil]; rfl
        have hk : kvs'.map (·.1) = (ys.take i).map Sum.inr := by
          rw [hv.keys, List.map_map, List.map_map]
          rfl
        have hnew : (Sum.inr ys[i] : Key) ∉ kvs'.map (·.1) := by
          rw [hk, List.mem_map]
          rintro ⟨z, hz, e⟩
          obtain ⟨j, hj, ej⟩ := List.mem_take_iff_getElem.mp hz
          have e2 : ys[j]'(by omega) = ys[i] := by rw [ej]; exact Sum.inr.inj e
          have := (List.getElem_inj ynd).mp e2
          omega
        have s56 : ∀ b o, (∀ k, o ≠ HO.dK k) → H5 b = some o → (upd H5 G (.dK (putK kvs' (.inr ys[i]) (.ref t)))) b = some o := fun b o no e => by
          rw [upd_ne (fun q => no kvs' (by rw [q, hG5] at e; exact (Option.some.inj e).symm))]
          exact e
        refine ⟨kvs', .inr ys[i], rfl, hG5, big_lt (by omega), kvs' ++ [(.inr ys[i], .ref t)], by rw [upd_same, putK_end hnew], ?_, fun b o e => ?_⟩
        · rw [et, List.map_append]
          refine paired_app ?_ (.cons ⟨rfl, t, rfl, s56 _ _ (fun _ z => nomatch z) ht⟩ .nil)
          exact hv.mono fun kv r ⟨e, a, e2, ha⟩ => ⟨e, a, e2, s56 _ _ (fun _ z => nomatch z) (s5 _ _ ha)⟩
        · rw [upd_ne (ne_of_none e nG)]
          exact s5 _ _ (keep b o e)
      · rintro H3 ⟨kvs', hG, hv, keep⟩
        rw [List.length_map, List.take_of_length_le (Nat.le_refl _), eys] at hv
        refine ⟨.ref x, rfl, x, CW, dx, _, rfl, keep _ _ hx1, clW, nW_rows, (by show 1 < 1000; decide), ?_⟩
        have hH : ∀ b, H2 b = none → H b = none := fun b hb => by
          cases e : H b with
          | none => rfl
          | some o =>
            by_cases hbx : b = x
            · rw [hbx, hx1] at hb
              cases hb
            · rw [old1 b o e hbx] at hb
              cases hb
        have hx3 := keep _ _ hx1
        have s3 : ∀ b o, (∀ c d f, o ≠ HO.ins c d f) → H3 b = some o → (upd H3 x (.ins CW dx (putF "_rows" (.ref G) (putF "_width" (.int w) [])))) b = some o := fun b o no e => by
          rw [upd_ne (fun q => no _ _ _ (by rw [q, hx3] at e; exact (Option.some.inj e).symm))]
          exact e
        refine q G _ (hH G nG) ⟨⟨dx, upd_same⟩, kvs', s3 _ _ (fun _ _ _ z => nomatch z) hG, hv.mono fun kv r ⟨e, a, e2, ha⟩ => ⟨e, a, e2, s3 _ _ (fun _ _ _ z => nomatch z) ha⟩⟩ fun b o e nb => ?_
        rw [upd_ne nb]
        exact keep b o (old1 b o e nb)
end

abbrev sWTInit : Stmt := inClass sWsh 0
theorem scWTInit : ScS ["self", "width", "rows"] (defScope sWTInit) := ⟨rfl, rfl, rfl, by decide +kernel, by decide +kernel, by decide +kernel, by decide +kernel, by decide +kernel, by decide +kernel⟩
theorem ok_wtinit {P : Program} {w : World} {K : PySem.W.Frag} {mg : Str → Option Value} {base : Heap} {f f2 C D : Addr} {fd fd2 : FuncData} {k : Nat} {file : Str} (F : FunS K file "__init__" "Wish.__init__" sWTInit f D fd) (G2 : FnOk P w K mg base CX0 k f2 fd2 ["self", "width", "rows"] (spInitW K C)) (b2 : Binds K fd2 ["self", "width", "rows"] []) (fi : PySem.W.fnIn K f2 = true)
    (ty : PySem.W.typeIn K (.ref f2) = some (.type "function")) (hcd : ∃ cdD, PySem.W.clsIn K D = some cdD) (hsub : PySem.W.mroIn K C (.ref D) = some true) (hm : PySem.W.ks_superIn K C D "__init__" = some (some (.ref f2))) (hop : PySem.W.nsIn K cStatics "thirdparty.any" = some none) (hsu : mg "super" = none)
    (hfile : ((P.main.file : Str) == file) = true) (htop : (P.main.scope.names.lookup ("super" : Str)).isSome = false) : FnOk P w K mg base CX0 (k + 1) f fd ["self", "width", "rows"] (spInitW K C) := by
  refine ok_super (self := "self") F scWTInit ((G2.raw b2 .nil).imp fun vs H Q E h => by rw [List.append_nil]; exact h) fi ty hcd hsub hm hop hsu hfile htop rfl ⟨_, rfl, rfl⟩ rfl (by decide +kernel) (fun _ => ⟨_, rfl⟩) (fun _ => rfl) (fun _ => rfl) (fun _ => rfl) (fun vs H Q E h => ?_) (fun h => h) (fun A cda cc outer s H vs Q hr h => ?_)
  · obtain ⟨x, dx, d, w, kvs, rows, rfl, _⟩ := h
    rfl
  · obtain ⟨x, dx, d, w, kvs, rows, rfl, hx, w1, w32, hd, hin, ok, few, q⟩ := h
    refine ⟨x, dx, _, _, _, rfl, hx, pa_cons (pv 1) (pa_cons (pv 2) pa_nil), pss_nil, ?_⟩
    exact ⟨.int w, rfl, .ref d, rfl, x, dx, d, w, kvs, rows, rfl, hx, w1, w32, hd, hin, ok, few, q⟩
abbrev sWT : Stmt := sWTInit

/-! ### == of two dicts whose values are data -/
def DEq (K : PySem.W.Frag) (H : Hp) (x y : V) : Prop := ∃ d, Dp K H x d ∧ Dp K H y d ∧ SeqAt.shaped d = true
def rEqDD (K : PySem.W.Frag) : R2 := fun x y H Q => ∃ a b ks ls, x = .ref a ∧ y = .ref b ∧ H a = some (.dK ks) ∧ H b = some (.dK ls) ∧ ks.length = ls.length ∧ (∀ p ∈ ks, ∃ u, valV ls p.1 = some u ∧ DEq K H p.2 u) ∧ Q (.bl true) H
theorem units65 {k : Nat} {A : Around} (r : Room k A) : A.units + 65 < cLine := by have := r.un; omega
theorem op_eqDD {X : Cx} (hu : X.A.units + 65 < cLine) : OpR X (compareOp .Eq) (rEqDD X.K) := by
  intro pins s σ H x y v u Q I rx ry h
  obtain ⟨a, b, ks, ls, rfl, rfl, ha, hb, hl, hp, q⟩ := h
  refine eqR_run (F := DEq X.K H) I (A := X.A) (by omega) (fun x y v u h r1 r2 => ?_) (.inr ⟨a, b, ks, ls, rfl, rfl, ha, hb, hl, hp⟩) rx ry _ _ ⟨.bl true, H, I, rfl, q⟩
  obtain ⟨d, h1, h2, sh⟩ := h
  obtain ⟨as, q1⟩ := Dp.reads I d x v h1 r1
  obtain ⟨bs, q2⟩ := Dp.reads I d y u h2 r2
  have z := SeqAt.eqAt_reads d d X.A.in1 s v u as bs q1 q2 (SeqAt.canLay_of_shaped sh) (SeqAt.canLay_of_shaped sh) (SeqAt.room_of_shaped sh (show X.A.units + 1 + 64 < cLine by omega))
  rw [SeqAt.eqv_refl] at z
  · exact z.eqP
  · exact SeqAt.canLay_of_shaped sh
def optD : Option Str → PyData
  | none => .none
  | some x => .str x
theorem dpAll_opt {K : PySem.W.Frag} {H : Hp} : ∀ l : List (Option Str), DpAll K H (l.map optV) (l.map optD)
  | [] => .nil
  | none :: r => .cons .non (dpAll_opt r)
  | some x :: r => .cons (.str x) (dpAll_opt r)
def lowS (x : Str) : Prop := ∀ c ∈ sg x, c < 128
theorem lay_opt : ∀ l : List (Option Str), (∀ x, some x ∈ l → lowS x) → PyData.canLayAll0 (l.map optD) = true
  | [], _ => by simp only [List.map_nil, PyData.canLayAll0]
  | o :: r, h => by
    rw [List.map_cons]
    simp only [PyData.canLayAll0]
    rw [lay_opt r fun x hx => h x (List.mem_cons_of_mem _ hx), Bool.and_true]
    cases o with
    | none => simp only [optD, PyData.canLay0]
    | some x =>
      simp only [optD, PyData.canLay0]
      unfold PyData.strOk
      rw [Array.all_eq_true']
      intro c hc
      have := h x List.mem_cons_self c (Array.mem_toList_iff.mpr hc)
      exact decide_eq_true (by omega)
theorem depth_opt (l : List (Option Str)) : PyData.depthAll (l.map optD) ≤ 0 := depthAll_le fun d hd => by
  obtain ⟨o, _, rfl⟩ := List.mem_map.mp hd
  cases o <;> (simp only [optD, PyData.depth]; exact Nat.le_refl _)
theorem shaped_optT {l : List (Option Str)} (h : ∀ x, some x ∈ l → lowS x) : SeqAt.shaped (.tuple (l.map optD)) = true := by
  have := depth_opt l
  unfold SeqAt.shaped
  rw [Bool.and_eq_true]
  refine ⟨by simp only [PyData.canLay0]; exact lay_opt l h, decide_eq_true ?_⟩
  simp only [PyData.depth]
  omega
theorem isT_low {x : Str} (h : isT x = true) : lowS x := by
  obtain ⟨y, e, s⟩ := tgt_sm (v := .str x) h
  rw [V.str.inj e]
  exact s.ch
theorem OkL.low {l : List (Option Str)} (h : OkL isT l) : ∀ x, some x ∈ l → lowS x := fun x hx => isT_low (h.tg _ hx)
theorem rows_len2 {kvs : List (Key × V)} {rows : WRows} (h : kvs.map (·.1) = (rows.map (·.1)).map Sum.inr) : kvs.length = rows.length := by
  have := congrArg List.length h
  rw [List.length_map, List.length_map, List.length_map] at this
  exact this
theorem wval_eq {K : PySem.W.Frag} {H : Hp} {kvs kvs2 : List (Key × V)} {rows : WRows} (h : WVal H kvs rows) (h2 : WVal H kvs2 rows) (nd : (rows.map (·.1)).Nodup) (sm : ∀ r ∈ rows, OkL isT r.2) {p : Key × V} (hp : p ∈ kvs) : ∃ u, valV kvs2 p.1 = some u ∧ DEq K H p.2 u := by
  have hk : p.1 ∈ (rows.map (·.1)).map Sum.inr := by
    rw [← h.keys]
    exact List.mem_map.mpr ⟨p, hp, rfl⟩
  obtain ⟨y, hy, ey⟩ := List.mem_map.mp hk
  obtain ⟨a, va, ha⟩ := h.at hy
  obtain ⟨b, vb, hb⟩ := h2.at hy
  have kn : (kvs.map (·.1)).Nodup := by
    rw [h.keys]
    exact nd.map Sum.inr (fun a b h e => h (Sum.inr.inj e))
  have vp := valV_some kn (k := p.1) (v := p.2) hp
  rw [← ey, va] at vp
  refine ⟨.ref b, by rw [← ey]; exact vb, .tuple ((look rows y).map optD), ?_, .tup (SqT.of hb) (dpAll_opt _), shaped_optT (sm _ (look_at hy)).low⟩
  rw [← Option.some.inj vp]
  exact .tup (SqT.of ha) (dpAll_opt _)
/-- == of two wishes of the same rows -/
def spEqW (C : Addr) : Sp := fun vs H Q _ => ∃ (x y e e2 : Addr) (w : Nat) (rows : WRows), vs = [.ref x, .ref y] ∧ WishAt C H x e w rows ∧ WishAt C H y e2 w rows ∧ (rows.map (·.1)).Nodup ∧ (∀ r ∈ rows, OkL isT r.2) ∧ Q (.bl true) H
section
variable {P : Program} {w : World} {K : PySem.W.Frag} {mg : Str → Option Value} {base : Heap}
theorem ok_eqmW {f C D : Addr} {fd : FuncData} {k : Nat} (F : Fun K "__eq__" "PrefixMap.__eq__" sEq f fd) (T : ClsF K C) (mi : mg "isinstance" = none) (mt : mg "type" = none) (mD : mg "PrefixMap" = some (.ref D)) (hk : PySem.W.kitOne K (.ref C) (.ref D) = some true) (hmk : PySem.W.makesIn K C = true) (OC : ObjC K C) :
    FnOk P w K mg base CX0 (k + 1) f fd ["self", "other"] (spEqW C) := by
  refine F.ok scEq (fun vs H Q E h => ?_) (fun cdv A outer s H vs Q E hr h => ?_)
  · obtain ⟨x, y, e, e2, w, rows, rfl, _⟩ := h
    rfl
  · obtain ⟨x, y, e, e2, w, rows, rfl, ⟨⟨dx, hx⟩, kvs, he, hv⟩, ⟨⟨dy, hy⟩, kvs2, he2, hv2⟩, nd, sm, q⟩ := h
    have hu := hu_of hr
    refine ⟨_, pss_cons (ps_if (pt_not (pt_val (pe_callB call_isi (by rfl) mi (by decide +kernel) (pa_cons (pv 1) (pa_cons (pe_glob (v := .ref D) rfl mD rfl) pa_nil))))) (pss_one (ps_ret pe_bl)) pss_nil)
      (pss_one (ps_ret (pe_and (pe_cmpR op_is_cls (pe_callTy cr_type (by rfl) mt (by decide +kernel) (pa_cons (pv 0) pa_nil)) (pe_callTy cr_type (by rfl) mt (by decide +kernel) (pa_cons (pv 1) pa_nil)) (nomark _))
        (pe_and (pe_cmpR op_eq (pe_fld (pv 0) rfl) (pe_fld (pv 1) rfl) (nomark _)) (pe_one (pe_cmpR (op_eqDD (units65 hr)) (pe_fld (pv 0) rfl) (pe_fld (pv 1) rfl) (nomark _))))))), ?_⟩
    refine ⟨.ref y, rfl, .ref y, .ref D, .ref C, .ref D, _, rfl, .own _, .base (.ins hy T.cl OC.ca OC.cg OC.ct OC.ob), hk, _, rfl, iteF ?_⟩
    refine ⟨.ref x, rfl, x, C, dx, _, rfl, hx, .ref y, rfl, y, C, dy, _, rfl, hy, C, C, rfl, rfl, .inl rfl, _, rfl, ?_⟩
    rw [decide_eq_true rfl]
    refine iteT ⟨.ref x, rfl, x, C, dx, _, _, rfl, hx, T.cl, T.nW, flds_w _ _, .ref y, rfl, y, C, dy, _, _, rfl, hy, T.cl, T.nW, flds_w _ _, rfl, _, rfl, ?_⟩
    rw [decide_eq_true rfl]
    refine iteT ⟨.ref x, rfl, x, C, dx, _, _, rfl, hx, T.cl, T.nR, flds_r _ _, .ref y, rfl, y, C, dy, _, _, rfl, hy, T.cl, T.nR, flds_r _ _, e, e2, kvs, kvs2, rfl, rfl, he, he2, by rw [rows_len2 hv.keys, rows_len2 hv2.keys], fun p hp => wval_eq hv hv2 nd sm hp, q⟩
end
/-! ### C.m(k = v, ..), m a classmethod of the class C -/
def tCMethK (C : Addr) (sp : Sp) (gV : List V → List V → List V) (ta : TE) (tk : TA) : TE := fun σ H Q => ta σ H fun x H1 => x = .ref C ∧ tk σ H1 fun zs H2 => sp (gV [.ref C] zs) H2 Q E0
section
variable {X : Cx} {k : Nat} {C p g : Addr} {mc : Value} {sp : Sp} {o : Expr} {kws : List Keyword} {m : Str} {pos apos : Pos} {ta : TE} {tk : TA} {fd : FuncData} {ps ks : List Str}
theorem pe_cmethK {pl : Sem Bool} {gv : List Value → List Value → List Value} {hV : List V → List V → List V} (he : PE X o ta) (r : ClX.CRead X.K C mc) (c : ClX.CMet X.K C mc m p g) (F : FnOk X.prog X.w X.K X.mg X.base CX0 k g fd ps sp) (hr : Room k X.A) (hb : KBinds X.K fd ps ks gv hV) (hkw : PK X kws tk)
    (hall : (backToKw pos (keywordEach kws X.env)).all (·.1.isSome) = true := by rfl) (hks : (backToKw pos (keywordEach kws X.env)).filterMap (·.1) = ks := by rfl) (hpl : ((backTo pos (starEach [] X.env)).any (·.1) || (backToKw pos (keywordEach kws X.env)).any (·.1.isNone)) = false := by rfl)
    (ht : eval (.Call (.Attribute o m apos) [] kws pos) X.env = (eval o X.env >>= fun ov => standAt apos.atName >>= fun _ => holding [ov] (getMethod ov m pl) >>= fun q => callWith pos q.1 q.2 (backTo pos (starEach [] X.env)) (backToKw pos (keywordEach kws X.env))) := by rfl) :
    PE X (.Call (.Attribute o m apos) [] kws pos) (tCMethK C sp hV ta tk) := by
  refine ⟨fun pins s σ H Q I h => ?_⟩
  refine PySem.W.methodCall_KW (pl := pl) (thn (he.run pins s σ H _ I h) fun u s1 ⟨x, H1, I1, rx, ex, q⟩ => ?_) ht
  subst ex
  obtain rfl : u = Value.ref C := rx
  refine ClX.getmethcm_ok I1 r c fun s2 I2 => ?_
  refine PySem.W.callWith_of hpl (PySem.W.keeps_M c.fi) (evalArgs_kw2_nil hall (thn (hkw.run pos _ s2 σ H1 _ I2 q) fun ws s3 ⟨zs, H2, I3, rz, q2⟩ => ⟨⟨ClX.pin_at I3, I3.kIn⟩, ?_⟩))
  rw [hks]
  have r2 := hb.rel (us := [.ref C]) (vs := [.ref C]) (.cons rfl .nil) rz
  have hl := F.len _ _ _ _ q2
  have z : wpAny (model X.prog X.w) X.A (call (.ref s1.heap.objs.size) ([] ++ []) (ks.zip ws)) (EP X ((s1.heap.objs.size, PySem.W.methodObj (.ref g) (.ref C)) :: pins) σ Q) X.xe s3 := by
    refine wpAny_call (PySem.W.method_call (ClX.pin_at I3) (codeAny_mono (F.run X.A X.stack s3 H2 ⟨[.ref C], ks.zip ws⟩ (gv [.ref C] ws) _ Q E0 hr I3.env0 (hb.to s3 [.ref C] ws I3.kIn (by rw [← r2.length]; exact hl)) r2 q2) fun res s' hq => ?_))
    match res, hq with
    | .ok (.ret u), hq => exact I3.after hq
  exact thn z fun _ _ y => ClX.unpinE y
end
section
variable {X : Cx} {k : Nat} {C p g : Addr} {mc : Value} {sp : Sp} {o e : Expr} {es : List Expr} {m : Str} {pos apos : Pos} {ta : TE} {t : TA} {fd : FuncData} {ps : List Str}
theorem pe_cmethO {pl : Sem Bool} (he : PE X o ta) (r : ClX.CRead X.K C mc) (c : ClX.CMet X.K C mc m p g) (F : FnOk X.prog X.w X.K X.mg X.base CX0 k g fd ps sp) (hr : Room k X.A) (hb : Binds X.K fd ps []) (ha : PA X (e :: es) t)
    (hst : starEach (e :: es) X.env = (false, eval e X.env) :: starEach es X.env := by rfl) (hpl : (backTo pos (starEach es X.env)).any (·.1) = false := by rfl)
    (ht : eval (.Call (.Attribute o m apos) (e :: es) [] pos) X.env = (do
      let ov ← eval o X.env
      standAt apos.atName
      let (f, first) ← holding [ov] (getMethod ov m pl)
      callWith pos f first (backTo pos (starEach (e :: es) X.env)) (backToKw pos (keywordEach [] X.env))) := by rfl) :
    PE X (.Call (.Attribute o m apos) (e :: es) [] pos) (ClX.tCMeth C sp E0 ta t) :=
  ClX.pe_cmeth he r c ((F.raw hb .nil).imp fun vs H Q E h => by rw [List.append_nil]; exact h) hr pass0 ha hst hpl ht
end
/-! ### xs[::-1], {**a, **b} -/
def tRev (K : PySem.W.Frag) (te : TE) (tm : TO) : TE := fun σ H Q => te σ H fun x H1 => tm σ H1 fun l H2 => l = some (-1) ∧ ∃ a xs, x = .ref a ∧ SqL K H2 a xs ∧ ∀ p, H2 p = none → Q (.ref p) (upd H2 p (.lst xs.reverse))
theorem vals_rev {xs : List V} {us : List Value} (r : Vals xs us) : Vals xs.reverse us.reverse := by
  induction r with
  | nil => exact .nil
  | cons h t ih => rw [List.reverse_cons, List.reverse_cons]; exact ih.append (.cons h .nil)
theorem pe_rev {X : Cx} {e m : Expr} {te : TE} {tm : TO} {pos p2 : Pos} (he : PE X e te) (hm : PO X (some m) tm) : PE X (.Subscript e (.Slice none none (some m) p2) pos) (tRev X.K te tm) := by
  refine ⟨fun pins s σ H Q I h => ?_⟩
  refine Subscript_ (thn (he.run pins s σ H _ I h) fun v s1 ⟨x, H1, I1, r1, q1⟩ => ?_)
  refine wpAny_Slice ?_
  rw [evalPart_none]
  refine wpAny_pure (wpAny_pure ?_)
  refine thn (hm.run pins s1 σ H1 _ I1 q1) fun vk s3 ⟨l, H3, I3, pk, q3⟩ => ?_
  obtain ⟨rfl, a, xs, rfl, hx, q⟩ := q3
  cases r1
  have I4 : Inv X pins σ H3 { s3 with heap := s3.heap.push { cls := .type "slice", data := .fields #[.none, .none, vk] } } := I3.kept (t' := s3.toks) fun b ob q => Heap.get?_push_of_some _ q
  obtain ⟨its, r, ht, hz⟩ := I4.list hx
  have hlen := r.length
  show wpAny (model X.prog X.w) X.A (subscriptTail e (.Slice none none (some m) p2) (.ref a) (.ref s3.heap.objs.size)) (EP X pins σ Q) X.xe { s3 with heap := s3.heap.push { cls := .type "slice", data := .fields #[.none, .none, vk] } }
  refine tail_any (ops := [.ref a, .ref s3.heap.objs.size]) ht.isList.typeIs slot_list_getitem.lookup ?_ (by with_unfolding_all rfl)
  refine wpAny_getItem_list_slice ht.isList (Heap.IsSliceOf.new ..) .none .none pk (by simp) ?_ (by rw [List.size_toArray] <;> omega)
  rw [PySem.W.krv_pick]
  refine ⟨.ref _, _, I4.laid (t' := s3.toks) (o := .lst xs.reverse) (fun b ob q => Heap.get?_push_of_some _ q) (Nat.le_refl _) ?_, rfl, q _ (I4.hok.fresh (Nat.le_refl _))⟩
  refine ⟨by rw [List.length_reverse]; exact hz, its.reverse, 0, vals_rev r, ?_⟩
  exact Heap.get?_push_size _ rfl
def tDss (ta tb : TE) : TE := fun σ H Q => ∀ p, H p = none → ta σ (upd H p (.dK [])) fun x H1 => ∃ (a : Addr) (kvs : List (Key × V)), x = .ref a ∧ Rd H1 a (.dK kvs) ∧ a ≠ p ∧ H1 p = some (.dK []) ∧ (kvs.map (·.1)).Nodup ∧ kvs.length < 1000 ∧
  tb σ (upd H1 p (.dK kvs)) fun y H2 => ∃ (b : Addr) (ls : List (Key × V)), y = .ref b ∧ Rd H2 b (.dK ls) ∧ b ≠ p ∧ H2 p = some (.dK kvs) ∧ ls.length < 1000 ∧ Q (.ref p) (upd H2 p (.dK (mergeK kvs ls)))
theorem pe_dss {X : Cx} {a b : Expr} {pos : Pos} {ta tb : TE} (ha : PE X a ta) (hb : PE X b tb) : PE X (.Dict [none, none] [a, b] pos) (tDss ta tb) := by
  refine ⟨fun pins s σ H Q I h => ?_⟩
  rw [arm_eval_Dict]
  refine wpAny_bind (wpAny_standAt ?_)
  show wpAny _ _ (dictDisplay [(none, (eval a X.env >>= fun x => standAt pos >>= fun _ => pure x)), (none, (eval b X.env >>= fun x => standAt pos >>= fun _ => pure x))]) _ _ _
  unfold dictDisplay
  simp only [List.forIn_cons, List.forIn_nil, List.isEmpty_nil, if_true, pure_bind, bind_assoc, List.nil_append, List.length_cons, List.length_nil, Nat.zero_add, Nat.reduceBEq, Bool.false_eq_true, if_false, List.isEmpty_cons]
  refine wpAny_bind (wpAny_alloc ?_)
  have hn : H s.heap.objs.size = none := I.hok.fresh (Nat.le_refl _)
  have I1 := I.laid (a := s.heap.objs.size) (o := .dK []) (h' := s.heap.push { cls := .type "dict", data := .dict #[] }) (t' := s.toks) (fun _ _ q => Heap.get?_push_of_some _ q) (Nat.le_refl _) (dk_empty s.heap I.big)
  refine wpAny_bind (wpAny_holding (wpAny_bind (thn (ha.run pins _ σ _ _ I1 (h _ hn)) fun u s2 ⟨x, H1, I2, rx, a1, kvs, ex, hr1, nap, hp, nd, few, q⟩ => wpAny_bind (wpAny_standAt (wpAny_pure ?_)))))
  subst ex
  obtain rfl : u = Value.ref a1 := rx
  refine wpAny_bind (wpAny_onRaise (wpAny_tryCatch (wpAny_onRaise (wpAny_holding (mergeH I2 hp hr1 nap.symm (by show 0 + kvs.length ≤ 2000; omega) fun s3 I3 => ?_)))))
  rw [mergeK_nd kvs [] (by rw [List.nil_append]; exact nd), List.nil_append] at I3
  refine wpAny_bind (wpAny_holding (wpAny_bind (thn (hb.run pins _ σ _ _ I3 q) fun u2 s4 ⟨y, H2, I4, ry, b1, ls, ey, hr2, nbp, hp2, few2, q2⟩ => wpAny_bind (wpAny_standAt (wpAny_pure ?_)))))
  subst ey
  obtain rfl : u2 = Value.ref b1 := ry
  exact wpAny_bind (wpAny_onRaise (wpAny_tryCatch (wpAny_onRaise (wpAny_holding (mergeH I4 hp2 hr2 nbp.symm (by omega) fun s5 I5 => wpAny_pure ⟨.ref s.heap.objs.size, _, I5, rfl, q2⟩)))))
/-! ### what two rules serve -/
theorem pe_orE {X : Cx} {e : Expr} {t1 t2 : TE} (h1 : PE X e t1) (h2 : PE X e t2) : PE X e (fun σ H Q => t1 σ H Q ∨ t2 σ H Q) :=
  ⟨fun pins s σ H Q I h => h.elim (fun q => h1.run pins s σ H Q I q) fun q => h2.run pins s σ H Q I q⟩
theorem opr_or {X : Cx} {f : Value → Value → Sem Value} {r1 r2 : R2} (h1 : OpR X f r1) (h2 : OpR X f r2) : OpR X f (fun x y H Q => r1 x y H Q ∨ r2 x y H Q) :=
  fun pins s σ H x y v u Q I rx ry h => h.elim (fun q => h1 pins s σ H x y v u Q I rx ry q) fun q => h2 pins s σ H x y v u Q I rx ry q
/-! ### a caught exception that a name keeps after the except clause -/
/-- a caught exception of the class cls, with the dict d, at a -/
def ExK (cls : Value) (d : Option Addr) (a : Addr) : HO := .ext fun h => ∃ (oe : Obj) (vs : Array Value), h.get? a = some oe ∧ Zc cls d oe ∧ oe.data = .fields vs
theorem exK_ok {P : Program} {w : World} {H : Hp} {h : Heap} {a : Addr} {cls : Value} {d : Option Addr} {oe : Obj} {vs : Array Value} (e : h.get? a = some oe) (z : Zc cls d oe) (q : oe.data = .fields vs) : ObjOk P w H h a (ExK cls d a) :=
  ⟨⟨oe, vs, e, z, q⟩, ⟨oe, e⟩, fun _ _ ⟨o, v, q, r⟩ k => ⟨o, v, k o q, r⟩⟩
theorem Un.track {fs ex : List Addr} {H0 H : Hp} {h0 h : Heap} {a : Addr} {o : HO} (u : Un fs ex H0 H h0 h) (new : h0.get? a = none) (na : H a = none) : Un fs ex H0 (upd H a o) h0 h where
  keep := u.keep
  slot := u.slot
  free := fun b ob e n hx => by
    rw [upd_ne (fun z => by rw [z, new] at e; cases e)]
    exact u.free b ob e n hx
  there := u.there
  tups := fun b xs e => by
    have q := u.tups b xs e
    rw [upd_ne (ne_of_none q na)]
    exact q
  frzs := fun b ob x e => by
    have q := u.frzs b ob x e
    rw [upd_ne (ne_of_none q na)]
    exact q
  tbls := fun b ps e => by
    obtain ⟨m, q⟩ := u.tbls b ps e
    exact ⟨m, by rw [upd_ne (ne_of_none q na)]; exact q⟩
theorem Inv.track {X : Cx} {pins : List (Addr × Obj)} {σ : L2.St} {H : Hp} {s : Shared} {a : Addr} {o : HO} (I : Inv X pins σ H s) (na : H a = none) (new : X.s_0.heap.get? a = none) (nL : a ≠ X.env.locals) (nC : ∀ x c, X.env.cells.lookup x = some c → c ≠ a)
    (nP : ∀ p ∈ X.pn ++ pins, p.1 ≠ a) (ok : ObjOk X.prog X.w (upd H a o) s.heap a o) : Inv X pins σ (upd H a o) s where
  ok := I.ok
  os := I.os
  bare := I.bare
  base := Un.track I.base new na
  loc := I.loc
  cell := I.cell
  free := by rw [upd_ne (Ne.symm nL)]; exact I.free
  freeC := fun x c e => by rw [upd_ne (nC x c e)]; exact I.freeC x c e
  pin := fun p hp => by
    obtain ⟨q1, q2, q3⟩ := I.pin p hp
    exact ⟨q1, by rw [upd_ne (nP p hp)]; exact q2, q3⟩
  hok := I.hok.laidN (fun _ _ q => q) na ok
  len := I.len
/-- the wish of a clause 'except x as n' whose exception a name of the suite may keep -/
def wKeep (K : PySem.W.Frag) (c : Value) (i : Nat) (ts : Addr → Value → Option Addr → TS) (Wo : WX) (D : Ends) : WX := fun cls d σ H => ∃ b, PySem.W.exmOne K cls c = some b ∧
  (b = true → ∀ a, H a = none → ts a cls d ⟨fun σ' H' => H' a = none → D.nx (σ'.set i none) (upd H' a (ExK cls d a)), D.rt, fun σ' H' => D.bk (σ'.set i none) H', fun σ' H' => D.ct (σ'.set i none) H'⟩ (σ.set i (some (.ref a))) H) ∧ (b = false → Wo cls d σ H)
theorem ps_keep {X : Cx} {x n : Str} {c : Value} {i : Nat} {body su : List Stmt} {b0 : Stmt} {np p1 p2 : Pos} {tb : WX → TS} {ts : Addr → Value → Option Addr → TS} {Wo : WX} (hx : X.ex = []) (hs : X.stack = X.env :: X.outer) (hf : X.env.frame = some X.env.locals) (nd : X.N.Nodup) (hi : X.N[i]? = some n)
    (hl : X.env.kindOf n = some .local) (hc : Names X x c) (tk : Takes X Wo) (hb : ∀ (W : WX) (pn : List (Addr × Obj)) (xe : Value → Shared → Prop), Takes (X.tr pn xe) W → PassesOwn (model X.prog X.w) X.A X.env xe → PSs (X.tr pn xe) body (tb W))
    (hsu : ∀ (a : Addr) (oe : Obj) (cls : Value) (d : Option Addr) (pn : List (Addr × Obj)), Zc cls d oe → (∃ vs, oe.data = .fields vs) → PSs (X.suite a ((a, oe) :: pn)) (b0 :: su) (ts a cls d)) :
    PS X (.Try body [.ExceptHandler (some (.Name x np)) (some n) (b0 :: su) p2] [] [] p1) (fun D σ H => tb (wKeep X.K c i ts Wo D) D σ H) := by
  refine ⟨fun pins s σ H D I h => ?_⟩
  have okX := I.ok
  have hfr : X.A.frames = some (X.env :: X.outer) := by rw [okX.frames, hs]
  let hd : List ExceptHandler := [.ExceptHandler (some (.Name x np)) (some n) (b0 :: su) p2]
  let xe : Value → Shared → Prop := fun e t => wpAny (model X.prog X.w) X.A (noteFrame e X.env) (fun _ t2 => wpAny (model X.prog X.w) X.A (setFlight e none) (fun _ t3 => wpAny (model X.prog X.w) X.A (handleBy e X.env hd) (SP X pins D) X.xe t3) X.xe t2) X.xe t
  have tkb : Takes (X.tr (X.pn ++ pins) xe) (wKeep X.K c i ts Wo D) := by
    intro u t z
    obtain ⟨a, B, sI, ps, σ1, H1, cls, d, rfl, J0, nb, up, sky, na, os, ag, b, hb1, hy, hn⟩ := z
    have J : Inv X pins σ1 H1 sI := J0.ofTry okX
    rw [show (X.tr (X.pn ++ pins) xe).stack = X.env :: X.outer from hs] at sky
    have nb' : ∀ b o, sI.heap.get? b = some o → b ∉ frs X.stack → B.get? b = some o := nb
    show wpAny _ X.A (noteFrame (.ref a) X.env) _ _ t
    refine Sky.land Zc.steady hfr hf sky fun h3 fl3 up3 => ?_
    obtain ⟨o3, v3, e3, z3, d3⟩ := fl3.there
    have J3 : Inv X pins σ1 H1 { t with heap := h3 } := J.landed nb' fl3.1 (up.trans up3) os ag
    have nfr : a ∉ frs (X.env :: X.outer) := fun hm => by
      obtain ⟨_, o', e', q'⟩ := Heap.FunFrames.mem fl3.2.2.1 hm
      rw [e3] at e'
      cases e'
      exact q' _ d3
    have nL : a ≠ X.env.locals := fun z => nfr (List.mem_filterMap.mpr ⟨_, List.mem_cons_self, by rw [hf, z]⟩)
    have nF : a ∉ X.fs := fun hm => by
      obtain ⟨e, he, q⟩ := List.mem_filterMap.mp hm
      exact nfr (List.mem_filterMap.mpr ⟨_, List.mem_cons_of_mem _ he, q⟩)
    have nI : sI.heap.get? a = none := by
      cases q : sI.heap.get? a with
      | none => rfl
      | some o =>
        have := nb' a o q (by rw [hs]; exact nfr)
        rw [fl3.2.1] at this
        cases this
    have n0 : X.s_0.heap.get? a = none := by
      cases q : X.s_0.heap.get? a with
      | none => rfl
      | some o =>
        obtain ⟨o', q'⟩ := J.base.there a o q (by rw [hx]; exact List.not_mem_nil)
        rw [nI] at q'
        cases q'
    have nP : ∀ p ∈ X.pn ++ pins, p.1 ≠ a := fun p hp z => by
      have q := (J.pin p hp).1
      rw [z, nI] at q
      cases q
    refine wpAny_handleBy_cons (codeAny_handlers_test ?_) (fun q => nomatch q)
    have ty : PySem.W.Looks (model X.prog X.w) h3 (typeOf (.ref a)) cls := fun A Q E s k q => wpAny_typeOf_ref (k _ _ e3) (by rw [z3.1]; exact q)
    have lm := PySem.W.exm_one (M := model X.prog X.w) J3.kIn ty hb1
    have test : ∀ {Q E : Value → Shared → Prop}, Q c { t with heap := h3 } → wpAny (model X.prog X.w) (X.A.mark (some (.ref a))) (eval (.Name x np) X.env) Q E { t with heap := h3 } := fun {Q E} q => by
      have S3 := J3.suite e3 d3 na nL nF
      rcases hc with ⟨hg, hdb, hm | ⟨hm, hv, hnn⟩⟩
      · exact ld_glob (X := X.suite a _) S3 hg hm q hdb
      · exact ld_blt (X := X.suite a _) S3 hg hm hv q hnn hdb
    refine test (lm.here ?_)
    cases b with
    | true =>
      refine codeAny_handlers_suite_as (HandSPX.lands_againZ fl3 fun h4 fl4 up4 => ?_)
      obtain ⟨o4, v4, e4, z4, d4⟩ := fl4.there
      have S4 := (J.landed nb' fl4.1 ((up.trans up3).trans up4) os ag : Inv X pins σ1 H1 { t with heap := h4 }).suite e4 d4 na nL nF
      refine store_ok (X := X.suite a ((a, o4) :: (X.pn ++ pins))) (v := .ref a) S4 nd hi (.inl hl) rfl (fun s5 S5 => ?_) (.inr hl)
      refine wpAny_mono ((hsu a o4 cls d (X.pn ++ pins) z4 ⟨_, d4⟩).run [] s5 _ H1 _ S5 (hy rfl a na)) (fun fl s6 hsp => ?_) (fun _ _ z => z.elim)
      have fin : ∀ {σ6 : L2.St} {H6 : Hp} {Q : Shared → Prop}, Inv (X.suite a ((a, o4) :: (X.pn ++ pins))) [] σ6 H6 s6 → (∀ s7, Inv (X.suite a ((a, o4) :: (X.pn ++ pins))) [] (σ6.set i none) H6 s7 → Q s7) →
          wpAny (model X.prog X.w) X.A (do bindName X.env n .none; unbindBehindTheSuite X.env n p2) (fun _ s7 => Q s7) X.xe s6 := fun S6 hq => gone_ok (X := X.suite a _) S6 nd hi hl hq
      cases fl with
      | next =>
        obtain ⟨σ6, H6, S6, q6⟩ := hsp
        refine fin S6 fun s7 S7 => ?_
        obtain ⟨g1, g2, _⟩ := S7.pin (a, o4) (List.mem_append.mpr (.inl List.mem_cons_self))
        have J7 := S7.unsuite okX
        refine ⟨_, _, Inv.track J7 g2 n0 nL (fun y cc e => ?_) nP (exK_ok g1 z4 d4), q6 g2⟩
        intro z
        obtain ⟨v, w1⟩ := J7.cell y cc e
        rw [z] at w1
        obtain ⟨ob, w2, w3⟩ := w1
        rw [g1] at w2
        cases w2
        rw [d4] at w3
        cases w3
      | brk =>
        obtain ⟨σ6, H6, S6, q6⟩ := hsp
        exact fin S6 fun s7 S7 => ⟨_, _, S7.unsuite okX, q6⟩
      | cont =>
        obtain ⟨σ6, H6, S6, q6⟩ := hsp
        exact fin S6 fun s7 S7 => ⟨_, _, S7.unsuite okX, q6⟩
      | ret u =>
        obtain ⟨v6, σ6, H6, S6, r6, q6⟩ := hsp
        exact fin S6 fun s7 S7 => ⟨_, _, _, S7.unsuite okX, r6, q6⟩
    | false =>
      show wpAny _ X.A (handleBy (.ref a) X.env []) _ _ _
      refine wpAny_handleBy_nil ?_
      obtain ⟨_, _, _, oe, vs, T, _, _, he, _, hd1, ht, _⟩ := id fl3
      unfold PySem.passOn
      refine wpAny_bind (wpAny_field he hd1 ht ?_)
      rw [if_neg (show ¬ ((Value.ref T == Value.none) = true) from by simp)]
      have away : wpAny (model X.prog X.w) X.A (setFlight (.ref a) X.env.frame) (fun _ t4 => wpAny (model X.prog X.w) X.A (throw (.ref a) : Sem Flow) (SP X pins D) X.xe t4) X.xe { t with heap := h3 } := by
        rw [hf]
        refine HandSPX.setFlight_upZ fl3 fun h4 held up4 => wpAny_throw (tk _ _ ?_)
        refine ⟨a, B, sI, pins, σ1, H1, cls, d, rfl, J, nb', (up.trans up3).trans up4, ?_, na, os, ag, hn rfl⟩
        rw [hs]
        exact .inr (.inr held)
      exact wpAny_bind away
  refine wpAny_Try_except (wpAny_mono ((hb _ (X.pn ++ pins) xe tkb PassesOwn.looking).run [] s σ H D (I.toTry _) h) (fun f s1 q => ?_) fun e s1 z => z)
  cases f with
  | next =>
    obtain ⟨σ1, H1, J1, q1⟩ := q
    exact wpAny_execs_nil ⟨_, _, J1.ofTry okX, q1⟩
  | brk =>
    obtain ⟨σ1, H1, J1, q1⟩ := q
    exact ⟨_, _, J1.ofTry okX, q1⟩
  | cont =>
    obtain ⟨σ1, H1, J1, q1⟩ := q
    exact ⟨_, _, J1.ofTry okX, q1⟩
  | ret u =>
    obtain ⟨v, σ1, H1, J1, r1, q1⟩ := q
    exact ⟨_, _, _, J1.ofTry okX, r1, q1⟩
/-- a class of errors of the program, over ValueError, without __init__ of its own: what raising it, and asking a kept one, wants -/
structure ExF (K : PySem.W.Frag) (C : Addr) : Prop where
  x : PySem.W.excIn K C [.type "ValueError", .type "Exception", .type "BaseException", .type "object"] "ValueError.__new__" = true
  k : PySem.W.keepIn K (.ref C) = true
  b : PySem.W.subIn K (.ref C) (.type "BaseException") = some true
  t : PySem.W.typeIn K (.ref C) = some (.type "type")
  i : PySem.W.isClsIn K C = true
/-- isinstance(x, c), x a kept exception of the own class D -/
def rIsX (K : PySem.W.Frag) : List V → Hp → VK → Prop := fun xs H Q => ∃ (a D : Addr) (c : V) (u : Value) (b : Bool), xs = [.ref a, c] ∧ H a = some (ExK (.ref D) none a) ∧ ExcC K D ∧ ClsV c u ∧ PySem.W.kitOne K (.ref D) u = some b ∧ Q (.bl b) H
def rIsXT (K : PySem.W.Frag) : List V → Hp → VK → Prop := fun xs H Q => ∃ (a D tp : Addr) (cs : List V) (us : List Value) (b : Bool), xs = [.ref a, .ref tp] ∧ H a = some (ExK (.ref D) none a) ∧ ExcC K D ∧ H tp = some (.tup cs) ∧ Paired ClsV cs us ∧ PySem.W.kitAny K (.ref D) us = some b ∧ Q (.bl b) H
theorem exK_inst {X : Cx} {pins : List (Addr × Obj)} {σ : L2.St} {H : Hp} {s : Shared} {a D : Addr} (I : Inv X pins σ H s) (ha : H a = some (ExK (.ref D) none a)) : ∃ oe, PySem.W.InstAt s.heap a oe D none := by
  obtain ⟨⟨oe, vs, g1, z1, d1⟩, _⟩ := (show ObjOk X.prog X.w H s.heap a (ExK (.ref D) none a) from I.hok a _ ha)
  refine ⟨oe, ?_⟩
  obtain ⟨oc, od, oda, osl⟩ := oe
  obtain ⟨h1, h2⟩ := z1
  dsimp only at h1 h2 d1
  subst h1 h2 d1
  exact ⟨g1, rfl, rfl, trivial⟩
theorem call_isX {X : Cx} : CallR X (.builtin "isinstance") (rIsX X.K) := by
  intro pins s σ H xs us Q I r h
  obtain ⟨a, D, c, u, b, rfl, ha, C, k, e, q⟩ := h
  obtain ⟨u1, u2, rfl, r1, r2⟩ := vals2 r
  have e2 := k.eq r2
  subst e2
  cases (show u1 = Value.ref a from r1)
  obtain ⟨oe, J⟩ := exK_inst I ha
  exact PySem.W.kia_one (PySem.W.handS_kitx_exc C.hg C.hk C.hs C.hd C.ha C.hn C.ht C.hm) I.kIn J e (fun z => nomatch z) fun tk => ⟨.bl b, H, I.tok tk, rfl, q⟩
theorem call_isXT {X : Cx} : CallR X (.builtin "isinstance") (rIsXT X.K) := by
  intro pins s σ H xs us Q I r h
  obtain ⟨a, D, tp, cs, ws, b, rfl, ha, C, hT, k, e, q⟩ := h
  obtain ⟨u1, u2, rfl, r1, r2⟩ := vals2 r
  cases (show u1 = Value.ref a from r1)
  cases (show u2 = Value.ref tp from r2)
  obtain ⟨oe, J⟩ := exK_inst I ha
  obtain ⟨_, its, rv, o, h1, h2, n, h3⟩ := (show ObjOk X.prog X.w H s.heap tp (.tup cs) from I.hok tp _ hT)
  have e3 := ClsV.all k rv
  subst e3
  obtain ⟨oc, od, dt, sl⟩ := o
  simp only at h2 h3
  subst h2 h3
  exact PySem.W.kia_tup (PySem.W.handS_kitx_exc C.hg C.hk C.hs C.hd C.ha C.hn C.ht C.hm) I.kIn J h1 e (fun z => nomatch z) fun tk => ⟨.bl b, H, I.tok tk, rfl, q⟩
/-! ### sorted(xs) of pairs, sorted(d.items()) -/
theorem each_self {α : Type} {R : Value → α → Prop} (f : α → Value) : ∀ (zs : List α), (∀ z ∈ zs, R (f z) z) → PySem.W.EachIs R (zs.map f) zs
  | [], _ => .nil
  | z :: zs, h => .cons (h z List.mem_cons_self) (each_self f zs fun y hy => h y (List.mem_cons_of_mem _ hy))
theorem each_eq {α : Type} {f : α → Value} : ∀ {vs : List Value} {zs : List α}, PySem.W.EachIs (fun v z => v = f z) vs zs → vs = zs.map f
  | _, _, .nil => rfl
  | _, _, .cons h t => by rw [h, each_eq t]; rfl
def prS (e : Str × Str) : PyData := .tuple [.str e.1, .str e.2]
def prI (e : Int × Str) : PyData := .tuple [.int e.1, .str e.2]
def leIS (a b : Int × Str) : Prop := a.1 < b.1 ∨ (a.1 = b.1 ∧ LeS a.2 b.2)
theorem leIS_anti {a b : Int × Str} (h : leIS a b) (h' : leIS b a) : a = b := by
  obtain ⟨i, x⟩ := a
  obtain ⟨j, y⟩ := b
  rcases h with h | ⟨h1, h2⟩ <;> rcases h' with h' | ⟨h3, h4⟩
  · exact absurd h (by omega)
  · have : i < j := h; have : j = i := h3; omega
  · have : i = j := h1; have : j < i := h'; omega
  · have e1 : i = j := h1
    have e2 : x = y := leS_anti h2 h4
    rw [e1, e2]
theorem le_prI {a b : Int × Str} (h : PySem.W.dataLe false prI a b = true) : leIS a b := by
  have h2 : (!PySem.W.dataLt (prI b) (prI a)) = true := h
  unfold prI at h2
  rw [PySem.W.dataLt_pair (by simp [PySem.W.alike]) (by simp [PySem.W.alike]), PySem.W.dataLt_int, PySem.W.dataLt_str] at h2
  simp only [PyData.eqv, beq_iff_eq] at h2
  unfold leIS
  by_cases e : b.1 = a.1
  · rw [if_pos e] at h2
    refine .inr ⟨e.symm, ?_⟩
    by_cases e2 : b.2 = a.2
    · rw [e2]; exact List.le_refl _
    · rw [if_neg e2] at h2
      have : ¬ (sg b.2 < sg a.2) := by simpa using h2
      exact List.not_lt.mp this
  · rw [if_neg e] at h2
    have : ¬ (b.1 < a.1) := by simpa using h2
    exact .inl (by omega)
theorem le_prS {a b : Str × Str} (h : PySem.W.dataLe false prS a b = true) : LeS a.1 b.1 := by
  have h2 : (!PySem.W.dataLt (prS b) (prS a)) = true := h
  unfold prS at h2
  rw [PySem.W.dataLt_pair (by simp [PySem.W.alike]) (by simp [PySem.W.alike]), PySem.W.dataLt_str, PySem.W.dataLt_str] at h2
  simp only [PyData.eqv, beq_iff_eq] at h2
  by_cases e : b.1 = a.1
  · rw [e]; exact List.le_refl _
  · rw [if_neg e] at h2
    have : ¬ (sg b.1 < sg a.1) := by simpa using h2
    exact List.not_lt.mp this
theorem depth_prI (e : Int × Str) : (prI e).depth ≤ 3 := by
  unfold prI
  simp only [PyData.depth, PyData.depthAll]
  decide
theorem alike_prI (l : List (Addr × Int × Str)) : PySem.W.AllAlike (l.map fun z => prI z.2) := PySem.W.AllAlike.of fun b b' => by simp [prI, PySem.W.alike, PySem.W.alikeAll]
/-- sorted(xs) of tuples (int, text) -/
def rSortIS (K : PySem.W.Frag) : List V → Hp → VK → Prop := fun xs H Q => ∃ (a : Addr) (zs : List (Addr × Int × Str)), xs = [.ref a] ∧ SqL K H a (zs.map fun z => V.ref z.1) ∧ zs.length ≤ 4000 ∧ (∀ z ∈ zs, SqT K H z.1 [.int z.2.1, .str z.2.2]) ∧
  ∀ (p : Addr) (us : List (Addr × Int × Str)), H p = none → us.Perm zs → us.Pairwise (fun a b => leIS a.2 b.2) → Q (.ref p) (upd H p (.lst (us.map fun z => V.ref z.1)))
theorem cr_sortIS {X : Cx} (hu : X.A.units + 64 < cLine) : CallR X (.builtin "sorted") (rSortIS X.K) := by
  intro pins s σ H vs us Q I r h
  obtain ⟨a, zs, rfl, hs, few, hz, q⟩ := h
  obtain ⟨its, rv, hl, hzz⟩ := I.list hs
  obtain ⟨u, rfl, ru⟩ := vals1 r
  obtain rfl : u = Value.ref a := ru
  have ei : its = zs.map fun z => Value.ref z.1 := by
    have e : (zs.map fun z => V.ref z.1) = (zs.map (·.1)).map V.ref := by rw [List.map_map]; rfl
    rw [e] at rv
    rw [refs_at rv, List.map_map]
    rfl
  subst ei
  refine PySem.W.sorted_data (bs := zs) (enc := fun z => prI z.2) (R := fun v z => v = .ref z.1) hl.isList (each_self _ zs fun _ _ => rfl) (each_self _ zs fun z hz' => ?_) (alike_prI _) (.tuples fun b => ⟨_, _, rfl⟩) (Nat.le_trans few (by decide)) (fun b _ => by have := depth_prI b.2; omega) fun out hlen ho => ?_
  · obtain ⟨its, rv, ⟨o, ho, hc, n, hd⟩, _⟩ := I.tuple (hz z hz')
    obtain ⟨u1, u2, rfl, ⟨t1, rfl⟩, ⟨t2, rfl⟩⟩ := vals2 rv
    exact ⟨_, Reads.tuple ho hc hd (.cons (.int _ t1) (.cons (.str _ t2) .nil))⟩
  · obtain rfl := each_eq (f := fun z : Addr × Int × Str => Value.ref z.1) ho
    have pz : (zs.mergeSort (PySem.W.dataLe false fun z : Addr × Int × Str => prI z.2)).Perm zs := List.mergeSort_perm _ _
    have pw := PySem.W.sort_pairwise (PySem.W.sortLe_total (PyProof.Rows.listOrd PyProof.Rows.itemOrd) false fun z : Addr × Int × Str => PySem.W.keyToks (prI z.2)) zs
    obtain ⟨n, hn⟩ := sortedAll_at s.heap (zs.map fun z => Value.ref z.1) (List.toArray ((zs.mergeSort (PySem.W.dataLe false fun z : Addr × Int × Str => prI z.2)).map fun z => Value.ref z.1))
    have nf : H (s.heap.objs.size + 1) = none := I.hok.fresh (Nat.le_succ _)
    refine ⟨.ref (s.heap.objs.size + 1), _, I.laid (o := .lst ((zs.mergeSort (PySem.W.dataLe false fun z : Addr × Int × Str => prI z.2)).map fun z => V.ref z.1)) (t' := s.toks) (fun b o e => sortedAll_old e) (Nat.le_succ _) ⟨?_, _, n, vals_maps (fun z : Addr × Int × Str => V.ref z.1) (fun z => Value.ref z.1) _ fun _ _ => rfl, hn⟩, rfl, q _ _ nf pz (pw.imp fun h => le_prI h)⟩
    rw [List.length_map, pz.length_eq]
    exact Nat.le_trans few (by decide)
/-! d.items() -/
theorem mt_itemsK {X : Cx} : MtR X "dict.items" (fun x xs H Q => ∃ (a : Addr) (kvs : List (Key × V)), x = .ref a ∧ xs = [] ∧ H a = some (.dK kvs) ∧ ∀ p, H p = none → Q (.ref p) (upd H p (DX.itemsO p a))) := by
  intro pins s σ H x xs v us Q I rx rxs h
  obtain ⟨a, kvs, rfl, rfl, ha, q⟩ := h
  cases rx
  cases rxs
  obtain ⟨z, hd, xs', rel, o, es, ep, ho, hx, hdat, _⟩ := dk_of I.hok ha
  refine DT.callItems (es := es) (ep := ep) hd ⟨o, ho, hx, hdat⟩ ?_
  have hf : H s.heap.objs.size = none := I.hok.fresh (Nat.le_refl _)
  exact ⟨.ref s.heap.objs.size, upd H s.heap.objs.size (DX.itemsO s.heap.objs.size a), I.laid (t' := s.toks) (fun b u e => Heap.get?_push_of_some _ e) (Nat.le_refl _) (DX.itemsO_ok (Heap.get?_push_size _ rfl)), rfl, q _ hf⟩
def txK (es : List (Str × Str)) : List (Key × V) := es.map fun e => (.inr e.1, .str e.2)
def rSortIt2 : List V → Hp → VK → Prop := fun vs H Q => ∃ (p a : Addr) (es : List (Str × Str)), vs = [.ref p] ∧ H p = some (DX.itemsO p a) ∧ H a = some (.dK (txK es)) ∧
  ∀ (H' : Hp) (l : Addr) (zs : List (Addr × Str × Str)), Same H H' → H l = none → H' l = some (.lst (zs.map fun z => V.ref z.1)) → (zs.map (·.2)).Perm es → zs.Pairwise (fun a b => LeS a.2.1 b.2.1) → (∀ z ∈ zs, H z.1 = none ∧ H' z.1 = some (.tup [.str z.2.1, .str z.2.2])) → Q (.ref l) H'
theorem depth_prS (e : Str × Str) : (prS e).depth ≤ 3 := by
  unfold prS
  simp only [PyData.depth, PyData.depthAll]
  decide
theorem alike_prS (l : List (Addr × Str × Str)) : PySem.W.AllAlike (l.map fun z => prS z.2) := PySem.W.AllAlike.of fun b b' => by simp [prS, PySem.W.alike, PySem.W.alikeAll]
theorem tx_at {es : List (Str × Str)} {vs : List (Key × Value)} (r : KV (txK es) vs) {j : Nat} {q : Key × Value} (h : vs[j]? = some q) : ∃ e, es[j]? = some e ∧ q.1 = .inr e.1 ∧ RelV (.str e.2) q.2 := by
  obtain ⟨e0, h0, h1, h2⟩ := DX.pget r h
  unfold txK at h0
  rw [List.getElem?_map] at h0
  obtain ⟨e, he, rfl⟩ := Option.map_eq_some_iff.mp h0
  exact ⟨e, he, h1.symm, h2⟩
theorem cr_sortIt2 {X : Cx} (hc : X.calm = true) (hu : X.A.units + 64 < cLine) : CallR X (.builtin "sorted") rSortIt2 := by
  intro pins s σ H vs us Q I r h
  obtain ⟨p, a, es, rfl, hp, ha, q⟩ := h
  obtain rfl := Vals.ref1 r
  have view : s.heap.IsItemsView p a := (show ObjOk X.prog X.w H s.heap p (DX.itemsO p a) from I.hok p _ hp).1
  obtain ⟨z, hd, xs', rel, o, ds, ep, ho, hx, hdat, hks, hps, hn⟩ := dk_of I.hok ha
  have l1 : es.length = xs'.length := by
    have := Paired.length rel
    unfold txK at this
    rwa [List.length_map] at this
  have z' : es.length ≤ sizeLine := by unfold txK at z; rwa [List.length_map] at z
  have l2 : ds.size = es.length := by rw [← Array.length_toList, hps.length, l1]
  have hh : X.A.handled = none := I.ok.hd hc
  refine DT.sortedI (es := ds) (ep := ep) hh view ⟨o, ho, hx, hdat⟩ (by rw [l2]; exact z') fun h' tk as hk hlt hl hG => ?_
  have lak : as.length = es.length := by omega
  have nd : as.Nodup := List.Pairwise.imp (fun h => Nat.ne_of_lt h) hG.rise
  have pr : ∀ (j : Nat) (b : Addr), as[j]? = some b → ∃ (e : Str × Str) (t1 t2 : Tok), es[j]? = some e ∧ h'.get? b = some { cls := .type "tuple", data := .seq #[Value.str e.1 t1, Value.str e.2 t2] } := by
    intro j b hj
    obtain ⟨en, he, hg⟩ := hG.pairs j b hj
    have jl : j < xs'.length := by rw [← l1, ← lak]; exact (List.getElem?_eq_some_iff.mp hj).1
    have hx' := List.getElem?_eq_getElem jl
    obtain ⟨e, he', k1, k2⟩ := tx_at rel hx'
    obtain ⟨g1, g2⟩ := hps.get? (i := j) (by rw [Array.getElem?_toList]; exact he) hx'
    have g1' : keyIs (.inr e.1) en.key = true := by rw [← k1]; exact g1
    obtain ⟨t2, e2⟩ := k2
    rcases keyIs_shape g1' with ⟨_, _, q, _⟩ | ⟨y, t1, q, e1⟩
    · cases q
    · cases q
      refine ⟨e, t1, t2, he', ?_⟩
      have g3 : (xs'.get ⟨j, jl⟩).2 = Value.str e.2 t2 := e2
      rw [hg, e1, g2, g3]
  have hob : (h'.push { cls := .type "list", data := .seq (as.map Value.ref).toArray }).get? h'.objs.size = some (seqObj "list" (as.map Value.ref).toArray 0) := Heap.get?_push_size _ rfl
  have kb : ∀ b o, s.heap.get? b = some o → (h'.push { cls := .type "list", data := .seq (as.map Value.ref).toArray }).get? b = some o := fun b o e => Heap.get?_push_of_some _ (hk b o e)
  have ne0 : ∀ b o, h'.get? b = some o → b ≠ h'.objs.size := fun b o e => Nat.ne_of_lt (Heap.lt_size e)
  generalize hh2 : h'.push { cls := .type "list", data := .seq (as.map Value.ref).toArray } = h2 at hob kb ⊢
  have ka : ∀ b o, h'.get? b = some o → h2.get? b = some o := fun b o e => by rw [← hh2]; exact Heap.get?_push_of_some _ e
  have em : (as.zip es).map (fun z => Value.ref z.1) = as.map Value.ref := by
    have : (as.zip es).map (fun z => Value.ref z.1) = ((as.zip es).map (·.1)).map Value.ref := by rw [List.map_map]; rfl
    rw [this, List.map_fst_zip (by omega)]
  have es2 : (as.zip es).map (·.2) = es := List.map_snd_zip (by omega)
  have zl : (as.zip es).length = es.length := by rw [List.length_zip]; omega
  have rd : ∀ z ∈ as.zip es, ∃ l, Reads h2 (Value.ref z.1) (prS z.2) l ∧ h'.objs.size ∉ l := by
    intro z hz
    obtain ⟨j, hj⟩ := List.mem_iff_getElem?.mp hz
    obtain ⟨h1, h2'⟩ := List.getElem?_zip_eq_some.mp hj
    obtain ⟨e, t1, t2, he, hg⟩ := pr j _ h1
    rw [h2'] at he
    cases he
    exact ⟨_, Reads.tuple (ka _ _ hg) rfl rfl (.cons (.str _ t1) (.cons (.str _ t2) .nil)), fun m => by simp at m⟩
  rw [← em] at hob
  refine PySem.W.list_sort_data (s := { s with heap := h2, toks := tk }) (bs := as.zip es) (enc := fun z => prS z.2) (R := fun v z => v = .ref z.1) hob (each_self _ _ fun _ _ => rfl) (each_self _ _ rd) (alike_prS _) (.tuples fun b => ⟨_, _, rfl⟩) (by rw [zl]; exact z') (fun b _ => by have := depth_prS b.2; show X.A.units + 1 + 1 + _ < cLine; omega) fun out hlen ho2 => ?_
  obtain rfl := each_eq (f := fun z : Addr × Str × Str => Value.ref z.1) ho2
  have srt0 := PySem.W.sort_pairwise (PySem.W.sortLe_total (PyProof.Rows.listOrd PyProof.Rows.itemOrd) false fun z : Addr × Str × Str => PySem.W.keyToks (prS z.2)) (as.zip es)
  have pz : ((as.zip es).mergeSort (PySem.W.dataLe false fun z => prS z.2)).Perm (as.zip es) := List.mergeSort_perm _ _
  have srt : ((as.zip es).mergeSort (PySem.W.dataLe false fun z : Addr × Str × Str => prS z.2)).Pairwise (fun a b => LeS a.2.1 b.2.1) := srt0.imp fun h => le_prS h
  clear srt0
  revert srt pz
  generalize (as.zip es).mergeSort (PySem.W.dataLe false fun z => prS z.2) = zs
  intro pz srt
  have kF : ∀ b o, b ≠ h'.objs.size → h2.get? b = some o → (sortedHeap h2 h'.objs.size ((as.zip es).map fun z => Value.ref z.1) (zs.map fun z => Value.ref z.1).toArray).get? b = some o := fun b o hb e => (PyProof.Rows.sortedHeap_old hb (Heap.lt_size e)).trans e
  have kS : ∀ b o, s.heap.get? b = some o → (sortedHeap h2 h'.objs.size ((as.zip es).map fun z => Value.ref z.1) (zs.map fun z => Value.ref z.1).toArray).get? b = some o := fun b o e => kF b o (ne0 _ _ (hk b o e)) (kb b o e)
  obtain ⟨eF, heF⟩ := PyProof.Rows.sortedHeap_at (vs := (as.zip es).map fun z => Value.ref z.1) (out := (zs.map fun z => Value.ref z.1).toArray) hob
  have I1 : Inv X pins σ H { s with heap := sortedHeap h2 h'.objs.size ((as.zip es).map fun z => Value.ref z.1) (zs.map fun z => Value.ref z.1).toArray, toks := tk } := I.kept (t' := tk) kS
  have hn0 : H h'.objs.size = none := I.hok.fresh (Nat.le_of_lt hlt)
  have I2 : Inv X pins σ (upd H h'.objs.size (.lst (zs.map fun z => V.ref z.1))) { s with heap := sortedHeap h2 h'.objs.size ((as.zip es).map fun z => Value.ref z.1) (zs.map fun z => Value.ref z.1).toArray, toks := tk } :=
    I1.take (t' := tk) (fun b ob _ e => e) (I.fpOk (Nat.le_of_lt hlt) hn0) ⟨by rw [List.length_map, pz.length_eq, zl]; exact z', _, eF, vals_maps (fun z : Addr × Str × Str => V.ref z.1) (fun z => Value.ref z.1) _ fun _ _ => rfl, heF⟩
  have nd2 : (zs.map (·.1)).Nodup := by
    have e := (pz.map (·.1)).nodup_iff.mpr (show ((as.zip es).map (·.1)).Nodup by rw [List.map_fst_zip (by omega)]; exact nd)
    exact e
  have at_ : ∀ z ∈ zs, ∃ (j : Nat) (t1 t2 : Tok), as[j]? = some z.1 ∧ h'.get? z.1 = some { cls := .type "tuple", data := .seq #[Value.str z.2.1 t1, Value.str z.2.2 t2] } := by
    intro z hz
    obtain ⟨j, hj⟩ := List.mem_iff_getElem?.mp (pz.mem_iff.mp hz)
    obtain ⟨h1, h2'⟩ := List.getElem?_zip_eq_some.mp hj
    obtain ⟨e, t1, t2, he, hg⟩ := pr j _ h1
    rw [h2'] at he
    cases he
    exact ⟨j, t1, t2, h1, hg⟩
  obtain ⟨H2, I3, g, qt⟩ := DX.takeT (P := fun b vs => ∃ z ∈ zs, z.1 = b ∧ vs = [.str z.2.1, .str z.2.2]) I (zs.map (·.1)) _ I2 nd2 fun b hb => by
    obtain ⟨z, hz, rfl⟩ := List.mem_map.mp hb
    obtain ⟨j, t1, t2, hj, hg⟩ := at_ z hz
    have nb : z.1 ≠ h'.objs.size := ne0 _ _ hg
    have lo : s.heap.objs.size ≤ z.1 := Nat.le_of_lt (hG.above _ (List.mem_of_getElem? hj))
    refine ⟨lo, by rw [upd_ne nb]; exact I.hok.fresh lo, _, ⟨z, hz, rfl, rfl⟩, fun H3 => ⟨by show 2 ≤ sizeLine; decide, [Value.str z.2.1 t1, Value.str z.2.2 t2], .cons ⟨t1, rfl⟩ (.cons ⟨t2, rfl⟩ .nil), _, kF _ _ nb (ka _ _ hg), rfl, 0, rfl⟩⟩
  refine ⟨.ref h'.objs.size, H2, I3, rfl, q H2 h'.objs.size zs (fun b o e => g b o (by rw [upd_ne (ne_of_none e hn0)]; exact e)) hn0 (g _ _ upd_same) (by have e := pz.map (·.2); rw [es2] at e; exact e) srt fun z hz => ?_⟩
  obtain ⟨vs, ⟨z2, hz2, e1, rfl⟩, hv⟩ := qt z.1 (List.mem_map.mpr ⟨z, hz, rfl⟩)
  have ez : z2 = z := by
    obtain ⟨i, hi⟩ := List.mem_iff_getElem?.mp hz
    obtain ⟨j, hj⟩ := List.mem_iff_getElem?.mp hz2
    have hi1 : (zs.map (·.1))[i]? = some z.1 := by rw [List.getElem?_map, hi]; rfl
    have hj1 : (zs.map (·.1))[j]? = some z.1 := by rw [List.getElem?_map, hj, ← e1]; rfl
    have ij := (List.getElem?_inj (List.getElem?_eq_some_iff.mp hi1).1 nd2).mp (hi1.trans hj1.symm)
    rw [← ij, hi] at hj
    exact (Option.some.inj hj).symm
  rw [ez] at hv
  obtain ⟨j, _, _, hj, _⟩ := at_ z hz
  exact ⟨I.hok.fresh (Nat.le_of_lt (hG.above _ (List.mem_of_getElem? hj))), hv⟩
/-! ### x.ljust(n, fill) and x.rstrip(signs) -/
theorem mt_ljustF {X : Cx} : MtR X "str.ljust" (fun x xs H Q => ∃ (a f : Str) (i : Int), x = .str a ∧ xs = [.int i, .str f] ∧ PadOk i = true ∧ f.length = 1 ∧ Q (.str (Txt.ljustF a i (f.cps.getD 0 0))) H) := by
  intro pins s σ H x xs v us Q I rx rs h
  obtain ⟨a, f, i, rfl, rfl, hp, hf, q⟩ := h
  obtain ⟨t, rfl⟩ := rx
  obtain ⟨u1, u2, rfl, r1, r2⟩ := vals2 rs
  obtain ⟨t1, rfl⟩ := r1
  obtain ⟨t2, rfl⟩ := r2
  exact ljust_fill hp hf fun t' k => ⟨.str (Txt.ljustF a i (f.cps.getD 0 0)), H, I.tok k, ⟨t', rfl⟩, q⟩
theorem pad_ok {n : Nat} (h : n ≤ 1000) : PadOk (n : Int) = true := by
  have h1 : fitsSsize (n : Int) = true := by
    unfold fitsSsize
    rw [Bool.not_eq_true', Bool.or_eq_false_iff]
    exact ⟨decide_eq_false (by omega), decide_eq_false (by omega)⟩
  have h2 : PySem.Builtin.Str.tooLong (n : Int).toNat = false := by
    show decide _ = false
    exact decide_eq_false (by rw [Int.toNat_natCast]; exact Nat.not_lt.mpr (Nat.le_trans h (by decide)))
  unfold PadOk
  rw [h1, h2]
  rfl
theorem ljust_zero {x : Str} {w : Nat} (h : x.length ≤ w) : Txt.ljustF x (w : Int) (("0" : Str).cps.getD 0 0) = x ++ Txt.mul "0" ((w - x.length : Nat) : Int) := by
  rw [zero_is]
  show Txt.ljustF x (w : Int) 48 = _
  unfold Txt.ljustF
  apply str_ext
  show sg _ = sg _
  by_cases e : (w : Int) ≤ x.length
  · rw [if_pos e, sg_app, sg_mul, show w - x.length = 0 by omega, List.replicate_zero, List.append_nil]
  · rw [if_neg e, sg_app, sg_mul]
    show (PySem.Builtin.Str.padded x 0 ((w : Int).toNat - x.length) 48).cps.toList = _
    rw [padded_list, List.replicate_zero, List.nil_append, Int.toNat_natCast]
theorem rstrip_pre (x y : Str) : Pre (Txt.rstripChars x y) x := by
  obtain ⟨j, _, e⟩ := rstripChars_is_prefix x y
  rw [e]
  show (PySem.Builtin.Str.strSub x 0 j).cps.toList <+: _
  rw [PySem.StrLaws.strSub_toList, List.drop_zero]
  exact List.take_prefix _ _
theorem pre_bits {x y : Str} (h : Pre x y) (hb : isBits y = true) : isBits x = true := bits_iff.mpr fun c hc => bits_iff.mp hb c (List.IsPrefix.subset h hc)
theorem cut_pre (x : Str) (hi : Option Int) : Pre (cutS x none hi) x := by
  show sg (cutS x none hi) <+: sg x
  unfold cutS
  show ((sg x).drop 0).take (_ - 0) <+: sg x
  rw [List.drop_zero]
  exact List.take_prefix _ _
theorem cut_last {z : Str} (h : z ≠ "") : (cutS z none (some (-1))).length + 1 ≤ z.length := by
  have h1 : 1 ≤ z.length := by
    rcases Nat.eq_zero_or_pos z.length with e | e
    · exfalso
      apply h
      apply str_ext
      show sg z = sg ""
      rw [sg_empty]
      exact List.eq_nil_of_length_eq_zero (by rw [sg_len]; exact e)
    · exact e
  rw [← sg_len]
  show (((sg z).drop _).take _).length + 1 ≤ _
  rw [List.length_take]
  have h2 : HT.sIx z.length z.length (some (-1)) ≤ z.length - 1 := by
    unfold HT.sIx
    simp only []
    split <;> omega
  omega
/-! ### what rows say, changes in their order -/
def gV (kvs : List (Key × V)) (y : Str) : V := (valV kvs (.inr y)).getD .non
theorem gV_tgt {w : Nat} {xs : List Str} {kvs : List (Key × V)} (ok : RowsOk w isTgtV xs kvs) (y : Str) : (∃ t, gV kvs y = .str t ∧ isTgtV (.str t) ∧ y ∈ xs) ∨ (gV kvs y = .non ∧ y ∉ xs) := by
  unfold gV
  cases e : valV kvs (.inr y) with
  | none => exact .inr ⟨rfl, fun h => by have q := valV_mem.mpr ((inr_mem ok.keys y).mpr h); rw [e] at q; cases q⟩
  | some v =>
    have hm := valV_in e
    obtain ⟨kv, hk, e1⟩ := List.mem_map.mp hm
    have e2 := valV_some ok.acc.nd (k := kv.1) (v := kv.2) hk
    rw [e1, e] at e2
    obtain ⟨t, ht, _⟩ := tgt_sm (ok.val kv hk)
    refine .inl ⟨t, ?_, ?_, (inr_mem ok.keys y).mp hm⟩
    · show v = .str t
      rw [← ht]
      exact Option.some.inj e2
    · rw [← ht]
      exact ok.val kv hk
theorem gV_scal {w w2 : Nat} {xs zs : List Str} {ks ls : List (Key × V)} (h1 : RowsOk w isTgtV xs ks) (h2 : RowsOk w2 isTgtV zs ls) (y : Str) : scal (gV ks y) (gV ls y) = true := by
  rcases gV_tgt h1 y with ⟨t, e, _⟩ | ⟨e, _⟩ <;> rcases gV_tgt h2 y with ⟨t2, e2, _⟩ | ⟨e2, _⟩ <;> rw [e, e2] <;> rfl
/-- the rows that differ, each with what is said at last -/
structure WantOk (ks ls : List (Key × V)) (us : List Str) (W : List (Key × V)) : Prop where
  keys : W.map (·.1) = us.map Sum.inr
  nd : us.Nodup
  mem : ∀ y, y ∈ us ↔ gV ks y ≠ gV ls y
  val : ∀ y ∈ us, valV W (.inr y) = some (gV ls y)
  few : us.length ≤ 200
def ordA (x y : Str) : Prop := leIS (-(x.length : Int), x) (-(y.length : Int), y)
def ordB (x y : Str) : Prop := leIS ((x.length : Int), x) ((y.length : Int), y)
structure IsSeq (ks ls : List (Key × V)) (cs : List (Str × V)) (A B : List Str) : Prop where
  eq : cs = A.map (fun y => (y, gV ls y)) ++ B.map (fun y => (y, gV ls y))
  memA : ∀ y, y ∈ A ↔ gV ks y ≠ gV ls y ∧ gV ls y ≠ .non
  memB : ∀ y, y ∈ B ↔ gV ks y ≠ gV ls y ∧ gV ls y = .non
  ndA : A.Nodup
  ndB : B.Nodup
  upA : A.Pairwise ordA
  upB : B.Pairwise ordB
  few : A.length + B.length ≤ 200
theorem perm_of_mem {α : Type} {l m : List α} (h1 : l.Nodup) (h2 : m.Nodup) (h : ∀ x, x ∈ l ↔ x ∈ m) : l.Perm m := (List.perm_ext_iff_of_nodup h1 h2).mpr h
theorem ordA_anti {x y : Str} (h : ordA x y) (h' : ordA y x) : x = y := congrArg Prod.snd (leIS_anti h h')
theorem ordB_anti {x y : Str} (h : ordB x y) (h' : ordB y x) : x = y := congrArg Prod.snd (leIS_anti h h')
theorem IsSeq.uniq {ks ls ks' ls' : List (Key × V)} {cs cs' : List (Str × V)} {A B A' B' : List Str} (hk : ∀ y, gV ks y = gV ks' y) (hl : ∀ y, gV ls y = gV ls' y) (h : IsSeq ks ls cs A B) (h' : IsSeq ks' ls' cs' A' B') : cs = cs' := by
  have eA : A = A' := List.Perm.eq_of_pairwise (le := ordA) (fun _ _ _ _ => ordA_anti) h.upA h'.upA (perm_of_mem h.ndA h'.ndA fun y => by rw [h.memA, h'.memA, hk, hl])
  have eB : B = B' := List.Perm.eq_of_pairwise (le := ordB) (fun _ _ _ _ => ordB_anti) h.upB h'.upB (perm_of_mem h.ndB h'.ndB fun y => by rw [h.memB, h'.memB, hk, hl])
  rw [h.eq, h'.eq, eA, eB]
  congr 1 <;> exact List.map_congr_left fun y _ => by rw [hl]
theorem IsSeq.mem {ks ls : List (Key × V)} {cs : List (Str × V)} {A B : List Str} (h : IsSeq ks ls cs A B) (c : Str × V) : c ∈ cs ↔ gV ks c.1 ≠ gV ls c.1 ∧ c.2 = gV ls c.1 := by
  rw [h.eq, List.mem_append, List.mem_map, List.mem_map]
  constructor
  · rintro (⟨y, hy, rfl⟩ | ⟨y, hy, rfl⟩)
    · exact ⟨((h.memA y).mp hy).1, rfl⟩
    · exact ⟨((h.memB y).mp hy).1, rfl⟩
  · rintro ⟨h1, h2⟩
    obtain ⟨y, v⟩ := c
    have h2 : v = gV ls y := h2
    subst h2
    by_cases e : gV ls y = .non
    · exact .inr ⟨y, (h.memB y).mpr ⟨h1, e⟩, rfl⟩
    · exact .inl ⟨y, (h.memA y).mpr ⟨h1, e⟩, rfl⟩
theorem IsSeq.keys {ks ls : List (Key × V)} {cs : List (Str × V)} {A B : List Str} (h : IsSeq ks ls cs A B) : cs.map (·.1) = A ++ B := by
  rw [h.eq, List.map_append, List.map_map, List.map_map]
  congr 1
  · exact List.map_id _
  · exact List.map_id _
theorem IsSeq.nd {ks ls : List (Key × V)} {cs : List (Str × V)} {A B : List Str} (h : IsSeq ks ls cs A B) : (cs.map (·.1)).Nodup := by
  rw [h.keys]
  exact List.nodup_append.mpr ⟨h.ndA, h.ndB, fun a ha b hb e => ((h.memA a).mp ha).2 (by rw [e]; exact ((h.memB b).mp hb).2)⟩
theorem keys_putK {kvs : List (Key × V)} {k j : Key} {v : V} : j ∈ (putK kvs k v).map (·.1) ↔ j = k ∨ j ∈ kvs.map (·.1) := by
  rw [← valV_mem, valV_put, ← valV_mem]
  by_cases e : j = k
  · rw [if_pos e]
    exact ⟨fun _ => .inl e, fun _ => rfl⟩
  · rw [if_neg e]
    exact ⟨.inr, fun h => h.resolve_left e⟩
theorem nd_putK {kvs : List (Key × V)} {k : Key} {v : V} (h : (kvs.map (·.1)).Nodup) : ((putK kvs k v).map (·.1)).Nodup := by
  by_cases hm : k ∈ kvs.map (·.1)
  · have e : (putK kvs k v).map (·.1) = kvs.map (·.1) := by
      unfold putK
      rw [if_pos (by obtain ⟨p, hp, e⟩ := List.mem_map.mp hm; exact List.any_eq_true.mpr ⟨p, hp, decide_eq_true e⟩), List.map_map]
      refine List.map_congr_left fun p _ => ?_
      show (if p.1 = k then (p.1, v) else p).1 = p.1
      split <;> rfl
    rw [e]
    exact h
  · rw [putK_end hm, List.map_append]
    exact List.nodup_append.mpr ⟨h, List.nodup_cons.mpr ⟨List.not_mem_nil, List.nodup_nil⟩, fun a ha b hb e => hm (by have e2 : b = k := List.mem_singleton.mp hb; rw [← e2, ← e]; exact ha)⟩
theorem keys_mergeK : ∀ {ls kvs : List (Key × V)} {j : Key}, j ∈ (mergeK kvs ls).map (·.1) ↔ j ∈ kvs.map (·.1) ∨ j ∈ ls.map (·.1)
  | [], kvs, j => by
    show j ∈ kvs.map (·.1) ↔ _
    exact ⟨.inl, fun h => h.resolve_right List.not_mem_nil⟩
  | p :: ls, kvs, j => by
    show j ∈ (mergeK (putK kvs p.1 p.2) ls).map (·.1) ↔ _
    rw [keys_mergeK, keys_putK, List.map_cons, List.mem_cons]
    constructor
    · rintro ((h | h) | h)
      · exact .inr (.inl h)
      · exact .inl h
      · exact .inr (.inr h)
    · rintro (h | h | h)
      · exact .inl (.inr h)
      · exact .inl (.inl h)
      · exact .inr h
theorem nd_mergeK : ∀ {ls kvs : List (Key × V)}, (kvs.map (·.1)).Nodup → ((mergeK kvs ls).map (·.1)).Nodup
  | [], _, h => h
  | p :: ls, kvs, h => by
    show ((mergeK (putK kvs p.1 p.2) ls).map (·.1)).Nodup
    exact nd_mergeK (nd_putK h)
/-- the keys of a dict of texts, as texts -/
theorem keyStrs {kvs : List (Key × V)} (h : ∀ j ∈ kvs.map (·.1), ∃ y, j = Sum.inr y) : ∃ us : List Str, kvs.map (·.1) = us.map Sum.inr := by
  generalize kvs.map (·.1) = l at h
  induction l with
  | nil => exact ⟨[], rfl⟩
  | cons j l ih =>
    obtain ⟨y, rfl⟩ := h j List.mem_cons_self
    obtain ⟨us, e⟩ := ih fun k hk => h k (List.mem_cons_of_mem _ hk)
    exact ⟨y :: us, by rw [e]; rfl⟩
theorem keysY {kvs : List (Key × V)} {us : List Str} (hk : kvs.map (·.1) = us.map Sum.inr) : ∀ (i : Nat) (H : Hp) (v : V) (H' : Hp), (H' = H ∧ ∃ k v', kvs[i]? = some (k, v') ∧ v = kV k) → H' = H ∧ ∃ x, us[i]? = some x ∧ v = V.str x := by
  rintro i H v H' ⟨e, k, v', h, rfl⟩
  refine ⟨e, ?_⟩
  have h1 : (kvs.map (·.1))[i]? = some k := by rw [List.getElem?_map, h]; rfl
  rw [hk, List.getElem?_map] at h1
  obtain ⟨x, hx, rfl⟩ := Option.map_eq_some_iff.mp h1
  exact ⟨x, hx, rfl⟩
theorem keys_len {kvs : List (Key × V)} {us : List Str} (hk : kvs.map (·.1) = us.map Sum.inr) : us.length = kvs.length := by
  have := congrArg List.length hk
  rw [List.length_map, List.length_map] at this
  exact this.symm
theorem keys_nd {kvs : List (Key × V)} {us : List Str} (hk : kvs.map (·.1) = us.map Sum.inr) (nd : us.Nodup) : (kvs.map (·.1)).Nodup := by
  rw [hk]
  exact nd.map Sum.inr fun a b h e => h (Sum.inr.inj e)
theorem nd_keys {kvs : List (Key × V)} {us : List Str} (hk : kvs.map (·.1) = us.map Sum.inr) (nd : (kvs.map (·.1)).Nodup) : us.Nodup := by
  rw [hk] at nd
  exact nd.of_map Sum.inr (fun a b h e => h (congrArg Sum.inr e))
theorem merge_keys {w w2 : Nat} {xs zs : List Str} {ks ls : List (Key × V)} (h1 : RowsOk w isTgtV xs ks) (h2 : RowsOk w2 isTgtV zs ls) : ∃ us : List Str, (mergeK ks ls).map (·.1) = us.map Sum.inr ∧ us.Nodup ∧ (∀ y, y ∈ us ↔ y ∈ xs ∨ y ∈ zs) ∧ us.length ≤ xs.length + zs.length := by
  obtain ⟨us, e⟩ := keyStrs (kvs := mergeK ks ls) fun j hj => by
    rcases keys_mergeK.mp hj with h | h
    · rw [h1.keys] at h
      obtain ⟨y, _, rfl⟩ := List.mem_map.mp h
      exact ⟨y, rfl⟩
    · rw [h2.keys] at h
      obtain ⟨y, _, rfl⟩ := List.mem_map.mp h
      exact ⟨y, rfl⟩
  refine ⟨us, e, nd_keys e (nd_mergeK h1.acc.nd), fun y => ?_, ?_⟩
  · rw [← inr_mem e y, keys_mergeK, inr_mem h1.keys, inr_mem h2.keys]
  · rw [keys_len e, keys_len h1.keys, keys_len h2.keys]
    exact length_mergeK _ _
theorem gV_in {w w2 : Nat} {xs zs : List Str} {ks ls : List (Key × V)} (h1 : RowsOk w isTgtV xs ks) (h2 : RowsOk w2 isTgtV zs ls) {y : Str} (h : gV ks y ≠ gV ls y) : y ∈ xs ∨ y ∈ zs := by
  rcases gV_tgt h1 y with ⟨_, _, _, h3⟩ | ⟨e, _⟩
  · exact .inl h3
  · rcases gV_tgt h2 y with ⟨_, _, _, h3⟩ | ⟨e2, _⟩
    · exact .inr h3
    · exact absurd (e.trans e2.symm) h
theorem val_keys {us : List Str} (f : Str → V) (nd : us.Nodup) {y : Str} (hy : y ∈ us) : valV (us.map fun x => ((.inr x : Key), f x)) (.inr y) = some (f y) :=
  valV_some (k := .inr y) (by rw [List.map_map]; exact nd.map (fun x : Str => (Sum.inr x : Key)) fun a b h e => h (Sum.inr.inj e)) (List.mem_map.mpr ⟨y, hy, rfl⟩)
theorem prd_map {α β γ : Type} {R : α → γ → Prop} (f : β → γ) : ∀ {as : List α} {bs : List β}, Paired (fun a b => R a (f b)) as bs → Paired R as (bs.map f)
  | _, _, .nil => .nil
  | _, _, .cons h t => .cons h (prd_map f t)
theorem prd_zip {H : Hp} (n : Str → Int) : ∀ {ts : List Addr} {us : List Str}, Paired (fun t u => H t = some (.tup [.int (n u), .str u])) ts us →
    ∃ zs : List (Addr × Int × Str), ts = zs.map (·.1) ∧ us = zs.map (·.2.2) ∧ ∀ z ∈ zs, z.2.1 = n z.2.2 ∧ H z.1 = some (.tup [.int z.2.1, .str z.2.2])
  | _, _, .nil => ⟨[], rfl, rfl, fun _ h => absurd h List.not_mem_nil⟩
  | _, _, .cons (a := t) (b := u) h r => by
    obtain ⟨zs, e1, e2, e3⟩ := prd_zip n r
    refine ⟨(t, n u, u) :: zs, by rw [e1]; rfl, by rw [e2]; rfl, fun z hz => ?_⟩
    rcases List.mem_cons.mp hz with rfl | hz
    · exact ⟨rfl, h⟩
    · exact e3 z hz
/-- what a dict says of some keys, as tuples in their order -/
structure Picked (H : Hp) (n : Str → Int) (us : List Str) (vs : List (Addr × Int × Str)) : Prop where
  at_ : ∀ z ∈ vs, H z.1 = some (.tup [.int z.2.1, .str z.2.2])
  perm : (vs.map (·.2.2)).Perm us
  up : (vs.map (·.2.2)).Pairwise fun x y => leIS (n x, x) (n y, y)
theorem Picked.same {H H' : Hp} {n : Str → Int} {us : List Str} {vs : List (Addr × Int × Str)} (s : Same H H') (h : Picked H n us vs) : Picked H' n us vs := ⟨fun z hz => s _ _ (h.at_ z hz), h.perm, h.up⟩
theorem Picked.of {H : Hp} {n : Str → Int} {us : List Str} {zs vs : List (Addr × Int × Str)} (hz : ∀ z ∈ zs, z.2.1 = n z.2.2 ∧ H z.1 = some (.tup [.int z.2.1, .str z.2.2])) (e : us = zs.map (·.2.2)) (p : vs.Perm zs) (pw : vs.Pairwise fun a b => leIS a.2 b.2) : Picked H n us vs := by
  refine ⟨fun z h => (hz z (p.mem_iff.mp h)).2, by rw [e]; exact p.map _, ?_⟩
  rw [List.pairwise_map]
  refine pw.imp_of_mem fun {a b} ha hb h => ?_
  have e1 := (hz a (p.mem_iff.mp ha)).1
  have e2 := (hz b (p.mem_iff.mp hb)).1
  rw [← e1, ← e2]
  exact h
theorem at_seq {t u : TS} {D : Ends} {σ : L2.St} {H : Hp} (h : t { D with nx := u D } σ H) : tSeq t u D σ H := h
theorem at_nm {k : Nat} {v : V} {σ : L2.St} {H : Hp} {Q : L2.St → Hp → Prop} (h : Q (σ.set k (some v)) H) : gName k v σ H Q := h
theorem at_as {te : TE} {tg : TG} {D : Ends} {σ : L2.St} {H : Hp} (h : te σ H fun x H1 => tg x σ H1 D.nx) : tAsg te tg D σ H := h
theorem at_rt {te : TE} {D : Ends} {σ : L2.St} {H : Hp} (h : te σ H D.rt) : tRet te D σ H := h
theorem at_cb1 {r : List V → Hp → VK → Prop} {t : TE} {σ : L2.St} {H : Hp} {Q : VK} (h : t σ H fun x H1 => r [x] H1 Q) : tCB r (tCons t tNil) σ H Q := h
theorem at_cons {t : TE} {ts : TA} {σ : L2.St} {H : Hp} {Q : List V → Hp → Prop} (h : t σ H fun x H1 => ts σ H1 fun xs H2 => Q (x :: xs) H2) : tCons t ts σ H Q := h
/-- sorted([(n(k), k) for k in d if b(k)]) -/
theorem pick {K : PySem.W.Frag} {i : Nat} {td : TE} {tt : TT} {te : TE} {σ : L2.St} {H : Hp} {Q : VK} {d : Addr} {W : List (Key × V)} {us : List Str} (st : Str → L2.St) (b : Str → Bool) (n : Str → Int) (hd : H d = some (.dK W)) (hk : W.map (·.1) = us.map Sum.inr) (few : us.length ≤ 900)
    (htd : ∀ H' (Q' : VK), Q' (.ref d) H' → td σ H' Q') (hst : ∀ u, (wipe σ [i]).set i (some (.str u)) = st u) (hw : ∀ u, wipe (st u) [i] = wipe σ [i])
    (ht : ∀ u ∈ us, ∀ od H' (Q' : Bool → Hp → Prop), H' d = some (.frz od (.dK W)) → Q' (b u) H' → tt (st u) H' Q')
    (he : ∀ u ∈ us, ∀ H' (Q' : VK), (∀ T, H' T = none → Q' (.ref T) (upd H' T (.tup [.int (n u), .str u]))) → te (st u) H' Q')
    (q : ∀ (p : Addr) (H' : Hp) (vs : List (Addr × Int × Str)), H p = none → Same H H' → H' p = some (.lst (vs.map fun z => V.ref z.1)) → Picked H' n (us.filter b) vs → Q (.ref p) H') :
    tLockE (tLc (iKeys td) (gName i) tt te [i]) σ H fun x H1 => rSortIS K [x] H1 Q := by
  refine ⟨d, .dK W, hd, trivial, fun od => htd _ _ ⟨d, od, rfl, .inl ⟨W, upd_same, fun D nD => ?_⟩⟩⟩
  obtain ⟨nDd, nD2⟩ := upd_free nD
  have hdf := upd_same (H := H) (a := d) (o := .frz od (.dK W))
  have keep : ∀ c o, c ≠ d → H c = some o → (upd H d (.frz od (.dK W))) c = some o := fun c o hc e => by rw [upd_ne hc]; exact e
  have free : ∀ c, (upd H d (.frz od (.dK W))) c = none → c ≠ d ∧ H c = none := fun c e => upd_free e
  revert hdf keep free nD
  generalize upd H d (.frz od (.dK W)) = Hf
  intro nD hdf keep free
  refine lc_tups walk_keys us V.str st b (fun u => .int (n u)) V.str (keys_len hk) nD (by rw [← keys_len hk]; omega) (fun _ s => s _ _ hdf) (keysY hk) (fun u _ H' Q' _ h => ?_) (fun u _ => hw u) (fun u hu H' Q' s h => ht u hu od H' Q' (s _ _ hdf) h) (fun u hu _ H' Q' s h => he u hu H' Q' h) fun H' ts s hD hp => ⟨s _ _ hdf, ?_⟩
  · show Q' ((wipe σ [i]).set i (some (.str u))) H'
    rw [hst]
    exact h
  · have s2 : Same H (upd H' d (.dK W)) := fun c o e => by
      by_cases hc : c = d
      · rw [hc, upd_same, ← hd, ← hc, e]
      · rw [upd_ne hc]
        exact s _ _ (keep c o hc e)
    obtain ⟨zs, e1, e2, e3⟩ := prd_zip (H := upd H' d (.dK W)) n (hp.mono fun t u h => by rw [upd_ne (free t h.2.1).1]; exact h.1)
    have lz : zs.length ≤ us.length := by
      have := congrArg List.length e2
      rw [List.length_map] at this
      rw [← this]
      exact List.length_filter_le _ _
    refine ⟨D, zs, rfl, SqL.of ?_, by omega, fun z hz => SqT.of (e3 z hz).2, fun p vs np pm pw => ?_⟩
    · rw [upd_ne nDd, hD, e1, List.map_map]
      rfl
    · refine q p _ vs (s2.free np) (s2.trans (same_upd np)) upd_same ?_
      exact (Picked.of e3 e2 pm pw).same (same_upd np)
theorem pk_len {H : Hp} {n : Str → Int} {us : List Str} {b : Str → Bool} {vs : List (Addr × Int × Str)} (h : Picked H n (us.filter b) vs) : vs.length ≤ us.length := by
  have := h.perm.length_eq
  rw [List.length_map] at this
  rw [this]
  exact List.length_filter_le _ _
/-- both halves give the sequence -/
theorem seq_of {H H' : Hp} {ks ls W : List (Key × V)} {us : List Str} {vs vs2 : List (Addr × Int × Str)} {ts : List Addr} (wo : WantOk ks ls us W) (h1 : Picked H (fun u => -(u.length : Int)) (us.filter fun u => !decide (gV ls u = .non)) vs) (h2 : Picked H (fun u => (u.length : Int)) (us.filter fun u => decide (gV ls u = .non)) vs2)
    (hp : Paired (fun t (z : Addr × Int × Str) => H' t = some (.tup [.str z.2.2, gV ls z.2.2])) ts (vs ++ vs2)) :
    ∃ cs, Paired (fun t (c : Str × V) => H' t = some (.tup [.str c.1, c.2])) ts cs ∧ IsSeq ks ls cs (vs.map (·.2.2)) (vs2.map (·.2.2)) := by
  refine ⟨(vs ++ vs2).map fun z => (z.2.2, gV ls z.2.2), prd_map _ hp, ⟨?_, fun y => ?_, fun y => ?_, ?_, ?_, h1.up, h2.up, ?_⟩⟩
  · rw [List.map_append, List.map_map, List.map_map]
    rfl
  · rw [h1.perm.mem_iff, List.mem_filter, wo.mem]
    by_cases e : gV ls y = .non
    · rw [decide_eq_true e]
      exact ⟨fun q => absurd q.2 (by decide), fun q => absurd e q.2⟩
    · rw [decide_eq_false e]
      exact ⟨fun q => ⟨q.1, e⟩, fun q => ⟨q.1, rfl⟩⟩
  · rw [h2.perm.mem_iff, List.mem_filter, wo.mem]
    by_cases e : gV ls y = .non
    · rw [decide_eq_true e]
      exact ⟨fun q => ⟨q.1, e⟩, fun q => ⟨q.1, rfl⟩⟩
    · rw [decide_eq_false e]
      exact ⟨fun q => absurd q.2 (by decide), fun q => absurd q.2 e⟩
  · exact h1.perm.nodup_iff.mpr (wo.nd.filter _)
  · exact h2.perm.nodup_iff.mpr (wo.nd.filter _)
  · rw [h1.perm.length_eq, h2.perm.length_eq]
    have e := wo.few
    have z : ∀ l : List Str, (l.filter fun u => !decide (gV ls u = .non)).length + (l.filter fun u => decide (gV ls u = .non)).length = l.length := fun l => by
      induction l with
      | nil => rfl
      | cons a l ih =>
        by_cases q : gV ls a = .non
        · rw [List.filter_cons_of_neg (by rw [decide_eq_true q]; decide), List.filter_cons_of_pos (by rw [decide_eq_true q]), List.length_cons, List.length_cons]
          omega
        · rw [List.filter_cons_of_pos (by rw [decide_eq_false q]; rfl), List.filter_cons_of_neg (by rw [decide_eq_false q]; decide), List.length_cons, List.length_cons]
          omega
    rw [z us]
    exact e
theorem iteNT {c A B : Prop} [Decidable c] (hc : ¬ c) (h : A) : if (!decide c) = true then A else B := by
  rw [decide_eq_false hc]
  exact iteT h
theorem map_put {us : List Str} {f : Str → V} {u : Str} (h : u ∉ us) : putK (us.map fun x => ((.inr x : Key), f x)) (.inr u) (f u) = (us ++ [u]).map fun x => ((.inr x : Key), f x) := by
  rw [putK_end, List.map_append]
  · rfl
  · rw [List.map_map]
    intro hm
    obtain ⟨y, hy1, hy2⟩ := List.mem_map.mp hm
    exact h (by rw [← Sum.inr.inj hy2]; exact hy1)
theorem notin_take {us : List Str} {i : Nat} {u : Str} (nd : us.Nodup) (h : us[i]? = some u) (b : Str → Bool) : u ∉ (us.take i).filter b := by
  intro hm
  obtain ⟨j, hj, ej⟩ := List.mem_take_iff_getElem.mp (List.mem_filter.mp hm).1
  have h1 : us[j]? = some u := by rw [← ej]; exact List.getElem?_eq_getElem _
  have := (List.getElem?_inj (List.getElem?_eq_some_iff.mp h1).1 nd).mp (h1.trans h.symm)
  omega
theorem rows_map {w : Nat} {xs ys : List Str} {kvs : List (Key × V)} (ok : RowsOk w isTgtV xs kvs) (nd : ys.Nodup) (h : ∀ y ∈ ys, y ∈ xs) : RowsOk w isTgtV ys (ys.map fun u => ((.inr u : Key), gV kvs u)) := by
  refine ⟨by rw [List.map_map]; rfl, ⟨nd, fun y hy => ok.pfx.bits y (h y hy), fun y hy => ok.pfx.len y (h y hy)⟩, fun kv hk => ?_⟩
  obtain ⟨y, hy, rfl⟩ := List.mem_map.mp hk
  rcases gV_tgt ok y with ⟨t, e, ht, _⟩ | ⟨_, e⟩
  · show isTgtV (gV kvs y)
    rw [e]
    exact ht
  · exact absurd (h y hy) e
theorem gV_map {ys : List Str} (f : Str → V) (nd : ys.Nodup) (z : Str) : gV (ys.map fun u => ((.inr u : Key), f u)) z = if z ∈ ys then f z else .non := by
  unfold gV
  by_cases h : z ∈ ys
  · rw [val_keys f nd h, if_pos h]
    rfl
  · rw [if_neg h]
    cases e : valV (ys.map fun u => ((.inr u : Key), f u)) (.inr z) with
    | none => rfl
    | some v =>
      have hm := valV_in e
      rw [List.map_map] at hm
      obtain ⟨y, hy, e2⟩ := List.mem_map.mp hm
      exact absurd hy (by rw [Sum.inr.inj e2]; exact h)
theorem gV_put (kvs : List (Key × V)) (y : Str) (v : V) (z : Str) : gV (putK kvs (.inr y) v) z = if z = y then v else gV kvs z := by
  unfold gV
  rw [valV_put]
  by_cases h : z = y
  · rw [if_pos (by rw [h]), if_pos h]
    rfl
  · rw [if_neg (fun e => h (Sum.inr.inj e)), if_neg h]
theorem mergeK_map {ys : List Str} (f : Str → V) (nd : ys.Nodup) : mergeK [] (ys.map fun u => ((.inr u : Key), f u)) = ys.map fun u => ((.inr u : Key), f u) := by
  rw [mergeK_nd, List.nil_append]
  rw [List.nil_append, List.map_map]
  exact nd.map (fun x : Str => (Sum.inr x : Key)) fun a b h e => h (Sum.inr.inj e)
/-- dict([(k, v(k)) for k in d if b(k)]) -/
theorem redict {K : PySem.W.Frag} {i : Nat} {td : TE} {tt : TT} {te : TE} {σ : L2.St} {H : Hp} {Q : VK} {d : Addr} {W : List (Key × V)} {us : List Str} (st : Str → L2.St) (b : Str → Bool) (f : Str → V) (hd : H d = some (.dK W)) (hk : W.map (·.1) = us.map Sum.inr) (nd : us.Nodup) (few : us.length ≤ 900)
    (htd : ∀ H' (Q' : VK), Q' (.ref d) H' → td σ H' Q') (hst : ∀ u, (wipe σ [i]).set i (some (.str u)) = st u) (hw : ∀ u, wipe (st u) [i] = wipe σ [i])
    (ht : ∀ u ∈ us, ∀ od H' (Q' : Bool → Hp → Prop), H' d = some (.frz od (.dK W)) → Q' (b u) H' → tt (st u) H' Q')
    (he : ∀ u ∈ us, ∀ od H' (Q' : VK), H' d = some (.frz od (.dK W)) → (∀ T, H' T = none → Q' (.ref T) (upd H' T (.tup [.str u, f u]))) → te (st u) H' Q')
    (q : ∀ (p : Addr) (H' : Hp), H p = none → Same H H' → H' p = some (.dK ((us.filter b).map fun u => (.inr u, f u))) → Q (.ref p) H') :
    tLockE (tLc (iKeys td) (gName i) tt te [i]) σ H fun x H1 => rDictP K [x] H1 Q := by
  refine ⟨d, .dK W, hd, trivial, fun od => htd _ _ ⟨d, od, rfl, .inl ⟨W, upd_same, fun D nD => ?_⟩⟩⟩
  obtain ⟨nDd, nD2⟩ := upd_free nD
  have hdf := upd_same (H := H) (a := d) (o := .frz od (.dK W))
  have keep : ∀ c o, c ≠ d → H c = some o → (upd H d (.frz od (.dK W))) c = some o := fun c o hc e => by rw [upd_ne hc]; exact e
  have free : ∀ c, (upd H d (.frz od (.dK W))) c = none → c ≠ d ∧ H c = none := fun c e => upd_free e
  revert hdf keep free nD
  generalize upd H d (.frz od (.dK W)) = Hf
  intro nD hdf keep free
  refine lc_tups walk_keys us V.str st b V.str f (keys_len hk) nD (by rw [← keys_len hk]; omega) (fun _ s => s _ _ hdf) (keysY hk) (fun u _ H' Q' _ h => ?_) (fun u _ => hw u) (fun u hu H' Q' s h => ht u hu od H' Q' (s _ _ hdf) h) (fun u hu _ H' Q' s h => he u hu od H' Q' (s _ _ hdf) h) fun H' ts s hD hp => ⟨s _ _ hdf, ?_⟩
  · show Q' ((wipe σ [i]).set i (some (.str u))) H'
    rw [hst]
    exact h
  · have s2 : Same H (upd H' d (.dK W)) := fun c o e => by
      by_cases hc : c = d
      · rw [hc, upd_same, ← hd, ← hc, e]
      · rw [upd_ne hc]
        exact s _ _ (keep c o hc e)
    refine ⟨D, ts, (us.filter b).map fun u => (.inr u, f u), rfl, SqL.of (by rw [upd_ne nDd]; exact hD), prd_map (R := fun p (kv : Key × V) => SqT K (upd H' d (.dK W)) p [kV kv.1, kv.2]) _ (hp.mono fun t u h => SqT.of (by rw [upd_ne (free t h.2.1).1]; exact h.1)), fun p np => ?_⟩
    rw [mergeK_map f (nd.filter _)]
    exact q p _ (s2.free np) (s2.trans (same_upd np)) upd_same
theorem val_gV {w : Nat} {vok : V → Prop} {xs : List Str} {kvs : List (Key × V)} (ok : RowsOk w vok xs kvs) {u : Str} (h : u ∈ xs) : valV kvs (.inr u) = some (gV kvs u) := by
  have := valV_mem.mpr ((inr_mem ok.keys u).mpr h)
  unfold gV
  cases e : valV kvs (.inr u) with
  | none => rw [e] at this; cases this
  | some v => rfl
theorem cut_strs (xs : List Str) (hi : Option Int) : ∃ us : List Str, cutV (xs.map V.str) none hi = us.map V.str ∧ (∀ u ∈ us, u ∈ xs) ∧ us.length ≤ xs.length := by
  refine ⟨xs.take (HT.sIx xs.length xs.length hi), ?_, fun u hu => List.mem_of_mem_take hu, by rw [List.length_take]; exact Nat.min_le_right _ _⟩
  unfold cutV
  rw [List.length_map]
  show ((xs.map V.str).drop 0).take (_ - 0) = _
  rw [List.drop_zero, Nat.sub_zero, List.map_take]
theorem pen_ne {H : Hp} {p c : Addr} {n : Nat} {m : List V} (h : Pen H p c n m) {a : Addr} {o : HO} (ha : H a = some o) (hl : ∀ xs, o ≠ .lst xs) : a ≠ p ∧ a ≠ c := by
  obtain ⟨ns, i, s, q⟩ := h
  exact ⟨ne_of ha q.at_ (hl _), ne_of ha q.cells (hl _)⟩
theorem pen_put {H : Hp} {p c a : Addr} {n : Nat} {m : List V} {o o' : HO} (h : Pen H p c n m) (ha : H a = some o) (hl : ∀ xs, o ≠ .lst xs) : Pen (upd H a o') p c n m := h.off (pen_ne h ha hl).1 (pen_ne h ha hl).2
theorem preBits {x y : Str} (h : Pre x y) (hb : isBits y = true) : isBits x = true := bits_iff.mpr fun c hc => bits_iff.mp hb c (List.IsPrefix.subset h hc)
theorem gV_no {w : Nat} {xs : List Str} {kvs : List (Key × V)} (ok : RowsOk w isTgtV xs kvs) {y : Str} (h : y ∉ xs) : gV kvs y = .non := by
  rcases gV_tgt ok y with ⟨_, _, _, h2⟩ | ⟨e, _⟩
  · exact absurd h2 h
  · exact e
theorem gV_sorted {w : Nat} {xs ys : List Str} {kvs ks : List (Key × V)} (ok : RowsOk w isTgtV xs kvs) (ok2 : RowsOk w isTgtV ys ks) (hs : Sorted xs kvs ks ys) (y : Str) : gV ks y = gV kvs y := by
  by_cases h : y ∈ xs
  · unfold gV
    rw [hs.val y h]
  · rw [gV_no ok h, gV_no ok2 (fun q => h (hs.perm.mem_iff.mp q))]
theorem gV_or {w : Nat} {xs : List Str} {kvs : List (Key × V)} (ok : RowsOk w isTgtV xs kvs) (y : Str) : gV kvs y = .non ∨ isTgtV (gV kvs y) := by
  rcases gV_tgt ok y with ⟨t, e, h, _⟩ | ⟨e, _⟩
  · exact .inr (by rw [e]; exact h)
  · exact .inl e
theorem gV_iff {w : Nat} {xs : List Str} {kvs : List (Key × V)} (ok : RowsOk w isTgtV xs kvs) (y : Str) : y ∈ xs ↔ gV kvs y ≠ .non := by
  rcases gV_tgt ok y with ⟨t, e, h, h2⟩ | ⟨e, h2⟩
  · exact ⟨fun _ => (by rw [e]; exact fun z => nomatch z), fun _ => h2⟩
  · exact ⟨fun q => absurd q h2, fun q => absurd e q⟩
theorem prd_get {α β : Type} {F : α → β → Prop} : ∀ {l₁ : List α} {l₂ : List β} {j : Nat} {x : α}, Paired F l₁ l₂ → l₁[j]? = some x → ∃ y, l₂[j]? = some y ∧ F x y
  | _, _, j, x, .nil, h => by simp at h
  | _, _, 0, x, .cons (b := y) f _, h => by
    simp only [List.getElem?_cons_zero] at h
    cases h
    exact ⟨y, rfl, f⟩
  | _, _, j + 1, x, .cons _ t, h => by
    simp only [List.getElem?_cons_succ] at h
    obtain ⟨y, h1, h2⟩ := prd_get (j := j) t h
    exact ⟨y, by simpa using h1, h2⟩
/-- rows that say the same are equal dicts -/
theorem eqDA_of {w w2 : Nat} {xs zs : List Str} {ks ls : List (Key × V)} (ok1 : RowsOk w isTgtV xs ks) (ok2 : RowsOk w2 isTgtV zs ls) (h : ∀ y, gV ks y = gV ls y) : ks.length = ls.length ∧ ∀ p ∈ ks, valV ls p.1 = some p.2 ∧ flatB p.2 = true := by
  have pm := perm_of_mem ok1.pfx.nd ok2.pfx.nd fun y => by rw [gV_iff ok1, gV_iff ok2, h]
  refine ⟨by rw [← keys_len ok1.keys, ← keys_len ok2.keys]; exact pm.length_eq, fun p hp => ?_⟩
  obtain ⟨y, e1, _, _, h4⟩ := ok1.acc.all p hp
  have hy : y ∈ xs := (inr_mem ok1.keys y).mp (List.mem_map.mpr ⟨p, hp, e1⟩)
  have v1 := val_gV ok1 hy
  have v2 := valV_some ok1.acc.nd (k := p.1) (v := p.2) hp
  rw [e1, v1] at v2
  have e2 := Option.some.inj v2
  refine ⟨?_, ?_⟩
  · rw [e1, val_gV ok2 (pm.mem_iff.mp hy), ← h, e2]
  · obtain ⟨t, e3, _⟩ := tgt_sm h4
    rw [e3]
    rfl
/-! ### == of dicts, whatever it comes to -/
theorem hits_gen {P : Program} {w : World} {A : Around} {s : Shared} {ls : List (Key × V)} {vb : List (Key × Value)} (rb : KV ls vb) (f : Key × V → Bool) {ks : List (Key × V)} {va : List (Key × Value)}
    (ra : KV ks va) : (∀ p ∈ ks, (valV ls p.1 = none ∧ f p = false) ∨ ∃ u, valV ls p.1 = some u ∧ ∀ v y, RelV p.2 v → RelV u y → SeqAt.EqP P w A s v y (f p)) → PySem.W.KeqHitsP P w A s vb va (ks.all f) := by
  unfold KV at ra
  induction ra with
  | nil => intro _; exact .nil
  | @cons p q ps qs h t k =>
    intro hp
    obtain ⟨h1, h2⟩ := h
    obtain ⟨key, v⟩ := q
    have h1' : p.1 = key := h1
    have more := k fun p' hm => hp p' (List.mem_cons_of_mem _ hm)
    rw [List.all_cons]
    rcases hp p List.mem_cons_self with ⟨e, e2⟩ | ⟨u, e, g⟩
    · have rr : RelO (none : Option V) (valueAt vb p.1) := by rw [← e]; exact rb.val p.1
      rw [e2, Bool.false_and]
      refine .miss ?_
      rw [← h1']
      cases hv : valueAt vb p.1 with
      | none => rfl
      | some y => rw [hv] at rr; exact rr.elim
    · have rr : RelO (some u) (valueAt vb p.1) := by rw [← e]; exact rb.val p.1
      obtain ⟨y, hy, ry⟩ := rr.some_of
      rw [h1'] at hy
      exact .hit hy (g v y h2 ry) more
def rEqG (K : PySem.W.Frag) : R2 := fun x y H Q => ∃ (a b : Addr) (ks ls : List (Key × V)) (f : Key × V → Bool), x = .ref a ∧ y = .ref b ∧ H a = some (.dK ks) ∧ H b = some (.dK ls) ∧
  (∀ p ∈ ks, (valV ls p.1 = none ∧ f p = false) ∨ ∃ u d d2, valV ls p.1 = some u ∧ Dp K H p.2 d ∧ Dp K H u d2 ∧ SeqAt.shaped d = true ∧ SeqAt.shaped d2 = true ∧ f p = PyData.eqv d d2) ∧ Q (.bl (ks.length == ls.length && ks.all f)) H
theorem op_eqG {X : Cx} (hu : X.A.units + 65 < cLine) : OpR X (compareOp .Eq) (rEqG X.K) := by
  intro pins s σ H x y v u Q I rx ry h
  obtain ⟨a, b, ks, ls, f, rfl, rfl, ha, hb, hp, q⟩ := h
  cases (show v = Value.ref a from rx)
  cases (show u = Value.ref b from ry)
  obtain ⟨_, ya, va, ra, da⟩ := (show ObjOk X.prog X.w H s.heap a (.dK ks) from I.hok a _ ha)
  obtain ⟨_, yb, vb, rb, db⟩ := (show ObjOk X.prog X.w H s.heap b (.dK ls) from I.hok b _ hb)
  refine PySem.W.rcP_dicts (knd := mixKind X.prog X.w) (r := ks.all f) ya yb da db (by omega) (fun _ => hits_gen rb f ra fun p hm => ?_) _ _ ?_
  · rcases hp p hm with h | ⟨u, d, d2, e, h1, h2, s1, s2, ef⟩
    · exact .inl h
    · refine .inr ⟨u, e, fun v y r1 r2 => ?_⟩
      obtain ⟨as, q1⟩ := Dp.reads I d _ v h1 r1
      obtain ⟨bs, q2⟩ := Dp.reads I d2 u y h2 r2
      have z := SeqAt.eqAt_reads d d2 X.A.in1 s v y as bs q1 q2 (SeqAt.canLay_of_shaped s1) (SeqAt.canLay_of_shaped s2) (SeqAt.room_of_shaped s1 (show X.A.units + 1 + 64 < cLine by omega))
      rw [ef]
      exact z.eqP
  · rw [← ra.length, ← rb.length]
    exact ⟨.bl _, H, I, rfl, q⟩
/-! ### == and != of instances of two classes -/
section
open PySem.W
variable {M : Model} {P : Program} {w : World} {K : Frag} {A : Around} {E : Value → Shared → Prop} {s : Shared} {x C D : Addr} {ox : Obj} {od : Option Obj}
theorem eq_inst2 {y f : Addr} {oy : Obj} {od' : Option Obj} {Z : Value → Shared → Prop} (X : K.In s.heap) (ne : C ≠ D) (sub : subIn K (.ref D) (.ref C) = some false) (J : InstAt s.heap x ox C od) (J' : InstAt s.heap y oy D od') (hu : A.units < cLine) (he : findIn K (.ref C) "__eq__" = some (some (.ref f))) (hf : isFn K (.ref f) = true)
    (h : wpAny (model P w) A (call (.ref f) [.ref x, .ref y]) (fun v s' => ∃ b, v = .bool b ∧ Z (.bool b) s') E s) : wpAny (model P w) A (richCompare .Eq (.ref x) (.ref y)) Z E s := by
  have nb : (Value.ref C != Value.ref D) = true := by simp [ne]
  unfold richCompare
  simp only [oneThing_ref]
  refine wpAny_holding (wpAny_bind (wpAny_cRoomFor hu ?_))
  rw [cmpInfo_Eq]
  dsimp only
  refine wpAny_bind (J.type.here (wpAny_bind (J'.type.here ?_)))
  rw [if_pos nb]
  refine wpAny_bind ((looks_subIn X sub).here ?_)
  simp only [Bool.false_eq_true, if_false]
  refine wpAny_bind ?_
  unfold tryCompare
  refine wpAny_bind (ifBound_K X J he hf (thn h fun v s' q => ?_))
  obtain ⟨b, rfl, q⟩ := q
  exact wpAny_pure (wpAny_pure q)
theorem ne_inst2 {y f : Addr} {oy : Obj} {od' : Option Obj} {Z : Value → Shared → Prop} (X : K.In s.heap) (OC : Kt.ObjC K C) (ne : C ≠ D) (sub : subIn K (.ref D) (.ref C) = some false) (J : InstAt s.heap x ox C od) (J' : InstAt s.heap y oy D od') (hu : A.units + 1 < cLine) (he : findIn K (.ref C) "__eq__" = some (some (.ref f))) (hf : isFn K (.ref f) = true)
    (h : wpAny (model P w) A.in1 (call (.ref f) [.ref x, .ref y]) (fun v s' => ∃ b, v = .bool b ∧ Z (.bool (!b)) s') E s) : wpAny (model P w) A (richCompare .NotEq (.ref x) (.ref y)) Z E s := by
  have S := PySem.F.cmp_object.ne
  have nb : (Value.ref C != Value.ref D) = true := by simp [ne]
  unfold richCompare
  simp only [oneThing_ref]
  refine wpAny_holding (wpAny_bind (wpAny_cRoomFor (Nat.lt_of_succ_lt hu) ?_))
  rw [cmpInfo_NotEq]
  dsimp only
  refine wpAny_bind (J.type.here (wpAny_bind (J'.type.here ?_)))
  rw [if_pos nb]
  refine wpAny_bind ((looks_subIn X sub).here ?_)
  simp only [Bool.false_eq_true, if_false]
  refine wpAny_bind ?_
  unfold tryCompare
  have sub : Looks (model P w) s.heap (isInstance (.ref x) (.type "object")) true := J.type.andThen (looks_mroIn X OC.ob)
  refine wpAny_bind (special_b X J OC.ne S (wpAny_call (codeAny_call_builtin S.plain PySem.F.cmpEntry_ne (check_slot PySem.F.cmpKind_ne PySem.F.cmpSplit_ne sub (PySem.F.cmpArgs_ne _ _) ?_))))
  unfold Builtin.«object.__ne__»
  refine wpAny_bind (m := slotArgs "__ne__" 1 _) (wpAny_pure ?_)
  refine wpAny_bind (wpAny_cRoomFor hu ?_)
  refine wpAny_bind (ifBound_K X J he hf (thn h fun v s' q => ?_))
  obtain ⟨b, rfl, q⟩ := q
  refine wpAny_bind (m := truthy (.bool b)) (wpAny_truthy_bool ?_)
  exact wpAny_pure (wpAny_pure (wpAny_pure q))
end
/-- a's class stands in C, b's in D -/
def rEqP (C D : Addr) (sp : Sp) : R2 := fun x y H Q => ∃ a b dx dy fs gs, x = .ref a ∧ y = .ref b ∧ H a = some (.ins C dx fs) ∧ H b = some (.ins D dy gs) ∧ sp [.ref a, .ref b] H (fun v H' => ∃ k, v = .bl k ∧ Q (.bl k) H') E0
def rNeP (C D : Addr) (sp : Sp) : R2 := fun x y H Q => ∃ a b dx dy fs gs, x = .ref a ∧ y = .ref b ∧ H a = some (.ins C dx fs) ∧ H b = some (.ins D dy gs) ∧ sp [.ref a, .ref b] H (fun v H' => ∃ k, v = .bl k ∧ Q (.bl (!k)) H') E0
/-- that D is no class below C -/
structure Apt (K : PySem.W.Frag) (C D : Addr) : Prop where
  ne : C ≠ D
  sub : PySem.W.subIn K (.ref D) (.ref C) = some false
section
variable {X : Cx} {C D f : Addr} {fd : FuncData} {k : Nat} {ps : List Str} {sp : Sp}
theorem op_eqP (F : FnOk X.prog X.w X.K X.mg X.base CX0 k f fd ps sp) (hr : Room k X.A) (T : Apt X.K C D) (he : PySem.W.findIn X.K (.ref C) "__eq__" = some (some (.ref f))) (hf : PySem.W.isFn X.K (.ref f) = true) (hb : Binds X.K fd ps []) : OpR X (compareOp .Eq) (rEqP C D sp) := by
  intro pins s σ H x y v u Q I rx ry h
  obtain ⟨a, b, dx, dy, fs, gs, rfl, rfl, ha, hb', q⟩ := h
  cases rx
  cases ry
  obtain ⟨_, O1, _⟩ := ins_get I.hok ha
  obtain ⟨_, O2, _⟩ := ins_get I.hok hb'
  obtain ⟨_, J1, _⟩ := O1.look
  obtain ⟨_, J2, _⟩ := O2.look
  show wpAny (model X.prog X.w) X.A (richCompare .Eq (.ref a) (.ref b)) (EP X pins σ Q) X.xe s
  refine eq_inst2 I.kIn T.ne T.sub J1 J2 (by have := hr.units; omega) he hf (wpAny_mono (run_fn (us := [.ref a, .ref b]) (vs := [V.ref a, V.ref b]) (dvs := []) (ds := []) (Q := fun v H' => ∃ k, v = .bl k ∧ Q (.bl k) H') F hr hb .nil pass0 I (.cons rfl (.cons rfl .nil)) q) (fun r s' hq => ?_) fun _ _ x => x)
  obtain ⟨z, H', I', rz, k, ez, q'⟩ := hq
  subst ez
  obtain rfl : r = Value.bool k := rz
  exact ⟨k, rfl, .bl k, H', I', rfl, q'⟩
theorem op_neP (F : FnOk X.prog X.w X.K X.mg X.base CX0 k f fd ps sp) (hr : Room (k + 1) X.A) (OC : ObjC X.K C) (T : Apt X.K C D) (he : PySem.W.findIn X.K (.ref C) "__eq__" = some (some (.ref f))) (hf : PySem.W.isFn X.K (.ref f) = true) (hb : Binds X.K fd ps []) : OpR X (compareOp .NotEq) (rNeP C D sp) := by
  intro pins s σ H x y v u Q I rx ry h
  obtain ⟨a, b, dx, dy, fs, gs, rfl, rfl, ha, hb', q⟩ := h
  cases rx
  cases ry
  obtain ⟨_, O1, _⟩ := ins_get I.hok ha
  obtain ⟨_, O2, _⟩ := ins_get I.hok hb'
  obtain ⟨_, J1, _⟩ := O1.look
  obtain ⟨_, J2, _⟩ := O2.look
  have hl := F.len _ _ _ _ q
  show wpAny (model X.prog X.w) X.A (richCompare .NotEq (.ref a) (.ref b)) (EP X pins σ Q) X.xe s
  refine ne_inst2 I.kIn OC T.ne T.sub J1 J2 (by have := hr.units; omega) he hf (wpAny_call (codeAny_mono (F.run X.A.in1 X.stack s H ⟨[.ref a, .ref b], []⟩ [.ref a, .ref b] [.ref a, .ref b] _ _ hr.in1 I.env0.in1 (by
    have z := hb s [.ref a, .ref b] I.kIn (by simpa using hl)
    simpa using z) (.cons rfl (.cons rfl .nil)) q) fun res s' hq => ?_))
  match res, hq with
  | .ok (.ret r), hq =>
    obtain ⟨z, H', I', rz, k, ez, q'⟩ := I.after hq
    subst ez
    obtain rfl : r = Value.bool k := rz
    exact ⟨k, rfl, .bl (!k), H', I', rfl, q'⟩
end
/-! ### == and != of an own object and anything else -/
section
open PySem.W PySem.Builtin PySem.SeqAt
open AutoSeq1 (wpAny_loadPart')
open MeetsSeq MeetsSeq2 MeetsSeq3
variable {M : Model} {P : Program} {w : World} {K : Frag} {A : Around} {E : Value → Shared → Prop} {s : Shared} {x C D : Addr} {ox : Obj} {od : Option Obj}
theorem eq_own {y T : Value} {f : Addr} {Z : Value → Shared → Prop} (X : K.In s.heap) (J : InstAt s.heap x ox C od) (ty : Looks (model P w) s.heap (typeOf y) T) (ne : (Value.ref C != T) = true) (sub : subIn K T (.ref C) = some false) (hu : A.units < cLine) (he : findIn K (.ref C) "__eq__" = some (some (.ref f))) (hf : isFn K (.ref f) = true)
    (h : wpAny (model P w) A (call (.ref f) [.ref x, y]) (fun v s' => ∃ b, v = .bool b ∧ Z (.bool b) s') E s) : wpAny (model P w) A (richCompare .Eq (.ref x) y) Z E s := by
  unfold richCompare
  simp only [oneThing_ref]
  refine wpAny_holding (wpAny_bind (wpAny_cRoomFor hu ?_))
  rw [cmpInfo_Eq]
  dsimp only
  refine wpAny_bind (J.type.here (wpAny_bind (ty.here ?_)))
  rw [if_pos ne]
  refine wpAny_bind ((looks_subIn X sub).here ?_)
  simp only [Bool.false_eq_true, if_false]
  refine wpAny_bind ?_
  unfold tryCompare
  refine wpAny_bind (ifBound_K X J he hf (thn h fun v s' q => ?_))
  obtain ⟨b, rfl, q⟩ := q
  exact wpAny_pure (wpAny_pure q)
theorem ne_own {y T : Value} {f : Addr} {Z : Value → Shared → Prop} (X : K.In s.heap) (OC : Kt.ObjC K C) (J : InstAt s.heap x ox C od) (ty : Looks (model P w) s.heap (typeOf y) T) (ne : (Value.ref C != T) = true) (sub : subIn K T (.ref C) = some false) (hu : A.units + 1 < cLine) (he : findIn K (.ref C) "__eq__" = some (some (.ref f))) (hf : isFn K (.ref f) = true)
    (h : wpAny (model P w) A.in1 (call (.ref f) [.ref x, y]) (fun v s' => ∃ b, v = .bool b ∧ Z (.bool (!b)) s') E s) : wpAny (model P w) A (richCompare .NotEq (.ref x) y) Z E s := by
  have S := PySem.F.cmp_object.ne
  unfold richCompare
  simp only [oneThing_ref]
  refine wpAny_holding (wpAny_bind (wpAny_cRoomFor (Nat.lt_of_succ_lt hu) ?_))
  rw [cmpInfo_NotEq]
  dsimp only
  refine wpAny_bind (J.type.here (wpAny_bind (ty.here ?_)))
  rw [if_pos ne]
  refine wpAny_bind ((looks_subIn X sub).here ?_)
  simp only [Bool.false_eq_true, if_false]
  refine wpAny_bind ?_
  unfold tryCompare
  have sub : Looks (model P w) s.heap (isInstance (.ref x) (.type "object")) true := J.type.andThen (looks_mroIn X OC.ob)
  refine wpAny_bind (special_b X J OC.ne S (wpAny_call (codeAny_call_builtin S.plain PySem.F.cmpEntry_ne (check_slot PySem.F.cmpKind_ne PySem.F.cmpSplit_ne sub (PySem.F.cmpArgs_ne _ _) ?_))))
  unfold Builtin.«object.__ne__»
  refine wpAny_bind (m := slotArgs "__ne__" 1 _) (wpAny_pure ?_)
  refine wpAny_bind (wpAny_cRoomFor hu ?_)
  refine wpAny_bind (ifBound_K X J he hf (thn h fun v s' q => ?_))
  obtain ⟨b, rfl, q⟩ := q
  refine wpAny_bind (m := truthy (.bool b)) (wpAny_truthy_bool ?_)
  exact wpAny_pure (wpAny_pure (wpAny_pure q))
/-- the right one's class stands below: it answers first -/
theorem eq_below {y f : Addr} {oy : Obj} {od' : Option Obj} {Z : Value → Shared → Prop} (X : K.In s.heap) (ne : C ≠ D) (sub : subIn K (.ref D) (.ref C) = some true) (J : InstAt s.heap x ox C od) (J' : InstAt s.heap y oy D od') (hu : A.units < cLine) (he : findIn K (.ref D) "__eq__" = some (some (.ref f))) (hf : isFn K (.ref f) = true)
    (h : wpAny (model P w) A (call (.ref f) [.ref y, .ref x]) (fun v s' => ∃ b, v = .bool b ∧ Z (.bool b) s') E s) : wpAny (model P w) A (richCompare .Eq (.ref x) (.ref y)) Z E s := by
  have nb : (Value.ref C != Value.ref D) = true := by simp [ne]
  unfold richCompare
  simp only [oneThing_ref]
  refine wpAny_holding (wpAny_bind (wpAny_cRoomFor hu ?_))
  rw [cmpInfo_Eq]
  dsimp only
  refine wpAny_bind (J.type.here (wpAny_bind (J'.type.here ?_)))
  rw [if_pos nb]
  refine wpAny_bind ((looks_subIn X sub).here ?_)
  simp only [if_true]
  refine wpAny_bind ?_
  unfold tryCompare
  refine wpAny_bind (ifBound_K X J' he hf (thn h fun v s' q => ?_))
  obtain ⟨b, rfl, q⟩ := q
  exact wpAny_pure (wpAny_bind (wpAny_rule (wpAny_pure q)))
/-- the left one declines, the own object answers -/
theorem eq_decl {a : Value} {T ida : String} {f : Addr} {Z : Value → Shared → Prop} (X : K.In s.heap) (ha : s.TypeIs a T) (J : InstAt s.heap x ox C od) (sub : subIn K (.ref C) (.type T) = some false) (h1 : Slot T (cmpInfo .Eq).2.1 ida)
    (hc1 : ∀ Q' : Value → Shared → Prop, Q' .notImplemented s → wpAny (model P w) A (call (.builtin ida) [a, .ref x]) Q' E s) (hu : A.units < cLine) (he : findIn K (.ref C) "__eq__" = some (some (.ref f))) (hf : isFn K (.ref f) = true)
    (h : wpAny (model P w) A (call (.ref f) [.ref x, a]) (fun v s' => ∃ b, v = .bool b ∧ Z (.bool b) s') E s) : wpAny (model P w) A (richCompare .Eq a (.ref x)) Z E s := by
  have nb : (Value.type T != Value.ref C) = true := rfl
  unfold richCompare
  simp only [ha.oneThing_none]
  refine wpAny_holding (wpAny_bind (wpAny_cRoomFor hu ?_))
  rw [cmpInfo_Eq] at h1 ⊢
  dsimp only at h1 ⊢
  refine wpAny_bind (wpAny_typeOf ha (wpAny_bind (J.type.here ?_)))
  rw [if_pos nb]
  refine wpAny_bind ((looks_subIn X sub).here ?_)
  simp only [Bool.false_eq_true, if_false, Bool.not_false, if_true]
  refine wpAny_bind (m := tryCompare a _ (.ref x)) (wpAny_tryCompare_declines ha h1 (hc1 _ ⟨rfl, ?_⟩))
  dsimp only
  refine wpAny_bind ?_
  unfold tryCompare
  refine wpAny_bind (ifBound_K X J he hf (thn h fun v s' q => ?_))
  obtain ⟨b, rfl, q⟩ := q
  exact wpAny_pure (wpAny_pure q)
theorem list_declines_own {l : Addr} {y : Value} {o : Obj} :
    MeetsIn P w (Builtin.«list.__eq__» ⟨[.ref l, y], []⟩) (fun _ R s => s.heap.get? l = some o ∧ o.cls = .type "list" ∧ Looks (model P w) s.heap (isInstance y (.type "list")) false ∧ R (.ok (.ret .notImplemented)) s) :=
  .of_wp fun A R s h => by obtain ⟨hl, hc, li, h⟩ := h; have f1 := @Looks.here; wp_walk using wpAny_loadPart' hl, li.here; exact ⟨_, rfl, h⟩
theorem dict_declines_own {l : Addr} {y : Value} {o : Obj} :
    MeetsIn P w (Builtin.«dict.__eq__» ⟨[.ref l, y], []⟩) (fun _ R s => s.heap.get? l = some o ∧ o.cls = .type "dict" ∧ Looks (model P w) s.heap (isInstance y (.type "dict")) false ∧ R (.ok (.ret .notImplemented)) s) :=
  .of_wp fun A R s h => by obtain ⟨hl, hc, li, h⟩ := h; wp_walk using wpAny_loadPart' hl, li.here; exact ⟨_, rfl, h⟩
theorem int_declines_own {b : Int} {u : Tok} {l C dx : Addr} :
    Meets (Builtin.«int.__eq__» ⟨[.int b u, .ref l], []⟩) (fun _ R s => s.heap.get? l = some (instObj C dx) ∧ R (.ok (.ret .notImplemented)) s) :=
  .of_wp fun prog w A R s h => by obtain ⟨hl, h⟩ := h; wp_walk using wpAny_loadPart' hl, wpAny_load hl; exact ⟨_, rfl, h⟩
theorem str_declines_own {b : Str} {u : Tok} {l C dx : Addr} :
    Meets (Builtin.«str.__eq__» ⟨[.str b u, .ref l], []⟩) (fun _ R s => s.heap.get? l = some (instObj C dx) ∧ R (.ok (.ret .notImplemented)) s) :=
  .of_wp fun prog w A R s h => by obtain ⟨hl, h⟩ := h; wp_walk using wpAny_loadPart' hl, wpAny_load hl; exact ⟨_, rfl, h⟩
end
/-! ### the rules -/
/-- what is no own object -/
inductive Oth (H : Hp) : V → String → Prop
  | non : Oth H .non "NoneType"
  | int (i : Int) : Oth H (.int i) "int"
  | str (x : Str) : Oth H (.str x) "str"
  | lst {a : Addr} {xs : List V} (h : H a = some (.lst xs)) : Oth H (.ref a) "list"
  | dic {a : Addr} {kvs : List (Key × V)} (h : Rd H a (.dK kvs)) : Oth H (.ref a) "dict"
/-- f answers == for the class -/
structure EqC (K : PySem.W.Frag) (f C : Addr) : Prop where
  he : PySem.W.findIn K (.ref C) "__eq__" = some (some (.ref f))
  no : ∀ T ∈ ["NoneType", "int", "str", "list", "dict"], PySem.W.mroIn K C (.type T) = some false
  oc : ObjC K C
structure OwnAt (K : PySem.W.Frag) (f : Addr) (H : Hp) (a C : Addr) : Prop where
  at_ : ∃ dx fs, H a = some (.ins C dx fs)
  eq : EqC K f C
/-- who is asked: u about v -/
inductive Who (K : PySem.W.Frag) (f : Addr) (H : Hp) : V → V → V → V → Prop
  | same {a b C : Addr} (h : OwnAt K f H a C) (h' : OwnAt K f H b C) : Who K f H (.ref a) (.ref b) (.ref a) (.ref b)
  | left {a b C D : Addr} (h : OwnAt K f H a C) (h' : OwnAt K f H b D) (ne : C ≠ D) (sub : PySem.W.subIn K (.ref D) (.ref C) = some false) : Who K f H (.ref a) (.ref b) (.ref a) (.ref b)
  | below {a b C D : Addr} (h : OwnAt K f H a C) (h' : OwnAt K f H b D) (ne : C ≠ D) (sub : PySem.W.subIn K (.ref D) (.ref C) = some true) : Who K f H (.ref a) (.ref b) (.ref b) (.ref a)
  | oth {a C : Addr} {y : V} {T : String} (h : OwnAt K f H a C) (o : Oth H y T) : Who K f H (.ref a) y (.ref a) y
  | oth' {x : V} {b C : Addr} {T : String} (o : Oth H x T) (h : OwnAt K f H b C) : Who K f H x (.ref b) (.ref b) x
inductive WhoN (K : PySem.W.Frag) (f : Addr) (H : Hp) : V → V → Prop
  | same {a b C : Addr} (h : OwnAt K f H a C) (h' : OwnAt K f H b C) : WhoN K f H (.ref a) (.ref b)
  | oth {a C : Addr} {y : V} {T : String} (h : OwnAt K f H a C) (o : Oth H y T) : WhoN K f H (.ref a) y
def rEqX (K : PySem.W.Frag) (f : Addr) (sp : Sp) : R2 := fun x y H Q => ∃ u v, Who K f H x y u v ∧ sp [u, v] H (fun r H' => ∃ k, r = .bl k ∧ Q (.bl k) H') E0
def rNeX (K : PySem.W.Frag) (f : Addr) (sp : Sp) : R2 := fun x y H Q => WhoN K f H x y ∧ sp [x, y] H (fun r H' => ∃ k, r = .bl k ∧ Q (.bl (!k)) H') E0
theorem Oth.types {P : Program} {w : World} {H : Hp} {s : Shared} (hok : HOk P w H s.heap) {v : V} {T : String} (o : Oth H v T) {y : Value} (r : RelV v y) : s.TypeIs y T := by
  cases o with
  | non => cases r; rfl
  | int i => obtain ⟨t, rfl⟩ := r; rfl
  | str x => obtain ⟨t, rfl⟩ := r; rfl
  | lst h =>
    cases (show y = Value.ref _ from r)
    obtain ⟨_, _, _, _, e⟩ := (show ObjOk P w H s.heap _ (.lst _) from hok _ _ h)
    exact ⟨_, e, rfl⟩
  | dic h =>
    cases (show y = Value.ref _ from r)
    obtain ⟨_, _, vs, rel, o, es, ep, ho, hc, hd, _⟩ := dk_rd hok h
    exact ⟨_, ho, hc.1⟩
theorem looks_types {M : Model} {s : Shared} {y : Value} {T : String} (h : s.TypeIs y T) : PySem.W.Looks M s.heap (typeOf y) (.type T) := fun A Q E s' k q => by
  have h' : s'.TypeIs y T := by
    cases y
    case ref a =>
      obtain ⟨o, ho, hc⟩ := h
      exact ⟨o, k _ _ ho, hc⟩
    all_goals exact h
  exact wpAny_typeOf h' q
theorem Oth.no {H : Hp} {v : V} {T : String} (o : Oth H v T) (K : PySem.W.Frag) (C : Addr) : PySem.W.subIn K (.type T) (.ref C) = some false := by
  cases o <;> rfl
theorem Oth.mem {H : Hp} {v : V} {T : String} (o : Oth H v T) : T ∈ ["NoneType", "int", "str", "list", "dict"] := by
  cases o <;> decide
section
open PySem.W PySem.Builtin PySem.SeqAt
variable {P : Program} {w : World} {K : Frag} {A : Around} {E : Value → Shared → Prop}
theorem Oth.declines {H : Hp} {s : Shared} (X : K.In s.heap) (hok : HOk P w H s.heap) {v : V} {T : String} (o : Oth H v T) {y : Value} (r : RelV v y) {f b C dx : Addr} {od : Option Obj} (J : InstAt s.heap b (instObj C dx) C od) (eC : EqC K f C) :
    ∃ id, Slot T (cmpInfo .Eq).2.1 id ∧ ∀ Q' : Value → Shared → Prop, Q' .notImplemented s → wpAny (model P w) A (call (.builtin id) [y, .ref b]) Q' E s := by
  have ty := o.types hok r
  have li : ∀ T' ∈ ["NoneType", "int", "str", "list", "dict"], Looks (model P w) s.heap (isInstance (.ref b) (.type T')) false := fun T' h => J.type.andThen (looks_mroIn X (eC.no T' h))
  cases o with
  | non =>
    cases r
    exact ⟨_, F.slot_NoneType_eq, fun Q' q => PySem.call_gives F.slot_NoneType_eq rfl F.entry_NoneType_eq (F.args_NoneType_eq_2 _ _) (SeqAt.NoneType___eq___none_ref_0 b) q⟩
  | int i =>
    obtain ⟨t, rfl⟩ := r
    exact ⟨_, F.slot_int_eq, fun Q' q => PySem.call_meets F.slot_int_eq ty F.entry_int_eq (F.args_int_eq_2 _ _) int_declines_own ⟨J.at_, q⟩⟩
  | str x =>
    obtain ⟨t, rfl⟩ := r
    exact ⟨_, F.slot_str_eq, fun Q' q => PySem.call_meets F.slot_str_eq ty F.entry_str_eq (F.args_str_eq_2 _ _) str_declines_own ⟨J.at_, q⟩⟩
  | lst h =>
    cases (show y = Value.ref _ from r)
    obtain ⟨o, ho, hc⟩ := ty
    exact ⟨_, F.slot_list_eq, fun Q' q => PySem.call_meetsIn F.slot_list_eq ⟨o, ho, hc⟩ F.entry_list_eq (F.args_list_eq_2 _ _) list_declines_own ⟨ho, hc, li _ (by decide), q⟩⟩
  | dic h =>
    cases (show y = Value.ref _ from r)
    obtain ⟨o, ho, hc⟩ := ty
    exact ⟨_, F.slot_dict_eq, fun Q' q => PySem.call_meetsIn F.slot_dict_eq ⟨o, ho, hc⟩ F.entry_dict_eq (F.args_dict_eq_2 _ _) dict_declines_own ⟨ho, hc, li _ (by decide), q⟩⟩
end
section
variable {X : Cx} {f : Addr} {fd : FuncData} {k : Nat} {ps : List Str} {sp : Sp}
theorem op_eqX (F : FnOk X.prog X.w X.K X.mg X.base CX0 k f fd ps sp) (hr : Room k X.A) (hf : PySem.W.isFn X.K (.ref f) = true) (hb : Binds X.K fd ps []) : OpR X (compareOp .Eq) (rEqX X.K f sp) := by
  intro pins s σ H x y v u Q I rx ry h
  obtain ⟨a, b, who, q⟩ := h
  have hu : X.A.units < cLine := by have := hr.units; omega
  have run : ∀ {va vb : Value}, RelV a va → RelV b vb → wpAny (model X.prog X.w) X.A (call (.ref f) [va, vb]) (fun v s' => ∃ b, v = .bool b ∧ EP X pins σ Q (.bool b) s') X.xe s := fun r1 r2 =>
    wpAny_mono (run_fn (vs := [a, b]) (dvs := []) (ds := []) (Q := fun v H' => ∃ k, v = .bl k ∧ Q (.bl k) H') F hr hb .nil pass0 I (.cons r1 (.cons r2 .nil)) q) (fun r s' hq => by
      obtain ⟨z, H', I', rz, k, ez, q'⟩ := hq
      subst ez
      obtain rfl : r = Value.bool k := rz
      exact ⟨k, rfl, .bl k, H', I', rfl, q'⟩) fun _ _ x => x
  have J : ∀ {a C : Addr}, OwnAt X.K f H a C → ∃ dx od, PySem.W.InstAt s.heap a (PySem.W.instObj C dx) C od := fun h => by
    obtain ⟨⟨dx, fs, ha⟩, _⟩ := h
    obtain ⟨_, O1, _⟩ := ins_get I.hok ha
    obtain ⟨_, J1, _⟩ := O1.look
    exact ⟨_, _, J1⟩
  show wpAny (model X.prog X.w) X.A (richCompare .Eq v u) (EP X pins σ Q) X.xe s
  cases who with
  | same h h' =>
    obtain ⟨_, _, J1⟩ := J h
    obtain ⟨_, _, J2⟩ := J h'
    cases rx
    cases ry
    exact eq_inst I.kIn J1 J2 hu h.eq.he hf (run rfl rfl)
  | left h h' ne sub =>
    obtain ⟨_, _, J1⟩ := J h
    obtain ⟨_, _, J2⟩ := J h'
    cases rx
    cases ry
    exact eq_own I.kIn J1 J2.type (by simp [ne]) sub hu h.eq.he hf (run rfl rfl)
  | below h h' ne sub =>
    obtain ⟨_, _, J1⟩ := J h
    obtain ⟨_, _, J2⟩ := J h'
    cases rx
    cases ry
    exact eq_below I.kIn ne sub J1 J2 hu h'.eq.he hf (run rfl rfl)
  | oth h o =>
    obtain ⟨_, _, J1⟩ := J h
    cases rx
    exact eq_own I.kIn J1 (looks_types (o.types I.hok ry)) rfl (o.no _ _) hu h.eq.he hf (run rfl ry)
  | oth' o h =>
    obtain ⟨_, _, J1⟩ := J h
    cases ry
    obtain ⟨id, sl, dec⟩ := o.declines (A := X.A) (E := X.xe) I.kIn I.hok rx J1 h.eq
    exact eq_decl I.kIn (o.types I.hok rx) J1 (h.eq.no _ o.mem) sl dec hu h.eq.he hf (run rfl rx)
theorem op_neX (F : FnOk X.prog X.w X.K X.mg X.base CX0 k f fd ps sp) (hr : Room (k + 1) X.A) (hf : PySem.W.isFn X.K (.ref f) = true) (hb : Binds X.K fd ps []) : OpR X (compareOp .NotEq) (rNeX X.K f sp) := by
  intro pins s σ H x y v u Q I rx ry h
  obtain ⟨who, q⟩ := h
  have hu : X.A.units + 1 < cLine := by have := hr.units; omega
  have hl := F.len _ _ _ _ q
  have run : ∀ {va vb : Value}, RelV x va → RelV y vb → wpAny (model X.prog X.w) X.A.in1 (call (.ref f) [va, vb]) (fun v s' => ∃ b, v = .bool b ∧ EP X pins σ Q (.bool (!b)) s') X.xe s := fun {va vb} r1 r2 =>
    wpAny_call (codeAny_mono (F.run X.A.in1 X.stack s H ⟨[va, vb], []⟩ [va, vb] [x, y] _ _ hr.in1 I.env0.in1 (by
      have z := hb s [va, vb] I.kIn (by simpa using hl)
      simpa using z) (.cons r1 (.cons r2 .nil)) q) fun res s' hq => by
        match res, hq with
        | .ok (.ret r), hq =>
          obtain ⟨z, H', I', rz, k, ez, q'⟩ := I.after hq
          subst ez
          obtain rfl : r = Value.bool k := rz
          exact ⟨k, rfl, .bl (!k), H', I', rfl, q'⟩)
  have J : ∀ {a C : Addr}, OwnAt X.K f H a C → ∃ dx od, PySem.W.InstAt s.heap a (PySem.W.instObj C dx) C od := fun h => by
    obtain ⟨⟨dx, fs, ha⟩, _⟩ := h
    obtain ⟨_, O1, _⟩ := ins_get I.hok ha
    obtain ⟨_, J1, _⟩ := O1.look
    exact ⟨_, _, J1⟩
  show wpAny (model X.prog X.w) X.A (richCompare .NotEq v u) (EP X pins σ Q) X.xe s
  cases who with
  | same h h' =>
    obtain ⟨_, _, J1⟩ := J h
    obtain ⟨_, _, J2⟩ := J h'
    cases rx
    cases ry
    exact ne_inst I.kIn h.eq.oc J1 J2 hu h.eq.he hf (run rfl rfl)
  | oth h o =>
    obtain ⟨_, _, J1⟩ := J h
    cases rx
    exact ne_own I.kIn h.eq.oc J1 (looks_types (o.types I.hok ry)) rfl (o.no _ _) hu h.eq.he hf (run rfl ry)
end
/-! ### __eq__ of the three classes and anything else -/
structure ClsX (K : PySem.W.Frag) (f D C : Addr) : Prop where
  F : ClsF K C
  kit : PySem.W.kitOne K (.ref C) (.ref D) = some true
  make : PySem.W.makesIn K C = true
  eq : EqC K f C
theorem kit_oth {K : PySem.W.Frag} {H : Hp} {v : V} {T : String} (o : Oth H v T) {D : Addr} (h1 : PySem.W.isClsIn K D = true) (h2 : PySem.W.typeIn K (.ref D) = some (.type "type")) : PySem.W.kitOne K (.type T) (.ref D) = some false := by
  unfold PySem.W.kitOne
  rw [if_neg (by cases o <;> exact fun h => Bool.noConfusion (show false = true from h))]
  show (if ((PySem.W.clsIn K D).isSome && PySem.W.typeIn K (.ref D) == some (.type "type")) = true then PySem.W.subIn K (.type T) (.ref D) else none) = some false
  rw [if_pos (by rw [show (PySem.W.clsIn K D).isSome = true from h1, h2]; exact beq_self_eq_true _)]
  exact o.no K D
theorem Oth.tyx {K : PySem.W.Frag} {H : Hp} {v : V} {T : String} (o : Oth H v T) : TyX K H v (.type T) := by
  cases o with
  | non => exact .base .non
  | int i => exact .base (.int i)
  | str x => exact .base (.str x)
  | lst h => exact .base (.lst h)
  | dic h =>
    rcases h with h | ⟨o, h⟩
    · exact .base (.dK h)
    · exact .fDict h
def spEqX (K : PySem.W.Frag) (cls : Addr → Prop) : Sp := fun vs H Q _ => ∃ (x C dx e : Addr) (z : Nat) (ka : List (Key × V)) (v : V), vs = [.ref x, v] ∧ cls C ∧ H x = some (.ins C dx (flds z e)) ∧ H e = some (.dK ka) ∧
  ((∃ (y D dy e2 : Addr) (zy : Nat) (kb : List (Key × V)) (g : Key × V → Bool), v = .ref y ∧ cls D ∧ H y = some (.ins D dy (flds zy e2)) ∧ H e2 = some (.dK kb) ∧ (C = D → z = zy → ∀ p ∈ ka, (valV kb p.1 = none ∧ g p = false) ∨ ∃ u d d2, valV kb p.1 = some u ∧ Dp K H p.2 d ∧ Dp K H u d2 ∧ SeqAt.shaped d = true ∧ SeqAt.shaped d2 = true ∧ g p = PyData.eqv d d2) ∧ Q (.bl (decide (C = D ∧ z = zy) && (ka.length == kb.length && ka.all g))) H) ∨
  ∃ T, Oth H v T ∧ Q (.bl false) H)
section
variable {P : Program} {w : World} {K : PySem.W.Frag} {mg : Str → Option Value} {base : Heap}
theorem ok_eqX {f D : Addr} {fd : FuncData} {k : Nat} {cls : Addr → Prop} (F : Fun K "__eq__" "PrefixMap.__eq__" sEq f fd) (all : ∀ C, cls C → ClsX K f D C) (mi : mg "isinstance" = none) (mt : mg "type" = none) (mD : mg "PrefixMap" = some (.ref D)) (h1 : PySem.W.isClsIn K D = true) (h2 : PySem.W.typeIn K (.ref D) = some (.type "type")) :
    FnOk P w K mg base CX0 (k + 1) f fd ["self", "other"] (spEqX K cls) := by
  refine F.ok scEq (fun vs H Q E h => ?_) (fun cdv A outer s H vs Q E hr h => ?_)
  · obtain ⟨x, C, dx, e, z, ka, v, rfl, _⟩ := h
    rfl
  · obtain ⟨x, C, dx, e, z, ka, v, rfl, hC, hx, he, q⟩ := h
    have hu := hu_of hr
    have TC := all C hC
    refine ⟨_, pss_cons (ps_if (pt_not (pt_val (pe_callB call_isi (by rfl) mi (by decide +kernel) (pa_cons (pv 1) (pa_cons (pe_glob (v := .ref D) rfl mD rfl) pa_nil))))) (pss_one (ps_ret pe_bl)) pss_nil)
      (pss_one (ps_ret (pe_and (pe_cmpR op_is_cls (pe_callTy cr_type (by rfl) mt (by decide +kernel) (pa_cons (pv 0) pa_nil)) (pe_callTy cr_type (by rfl) mt (by decide +kernel) (pa_cons (pv 1) pa_nil)) (nomark _))
        (pe_and (pe_cmpR op_eq (pe_fld (pv 0) rfl) (pe_fld (pv 1) rfl) (nomark _)) (pe_one (pe_cmpR (op_eqG (units65 hr)) (pe_fld (pv 0) rfl) (pe_fld (pv 1) rfl) (nomark _))))))), ?_⟩
    rcases q with ⟨y, C2, dy, e2, zy, kb, g, rfl, hC2, hy, he2, hp, q⟩ | ⟨T, o, q⟩
    · have TC2 := all C2 hC2
      refine ⟨.ref y, rfl, .ref y, .ref D, .ref C2, .ref D, _, rfl, .own _, .base (.ins hy TC2.F.cl TC2.eq.oc.ca TC2.eq.oc.cg TC2.eq.oc.ct TC2.eq.oc.ob), TC2.kit, _, rfl, iteF ?_⟩
      refine ⟨.ref x, rfl, x, C, dx, _, rfl, hx, .ref y, rfl, y, C2, dy, _, rfl, hy, C, C2, rfl, rfl, .inr ⟨TC.make, TC2.make⟩, _, rfl, ?_⟩
      by_cases hc : C = C2
      · subst hc
        rw [decide_eq_true rfl]
        refine iteT ⟨.ref x, rfl, x, C, dx, _, _, rfl, hx, TC.F.cl, TC.F.nW, flds_w _ _, .ref y, rfl, y, C, dy, _, _, rfl, hy, TC.F.cl, TC.F.nW, flds_w _ _, rfl, _, rfl, ?_⟩
        by_cases hz : z = zy
        · subst hz
          rw [decide_eq_true (show V.int (z : Nat) = V.int (z : Nat) from rfl)]
          refine iteT ⟨.ref x, rfl, x, C, dx, _, _, rfl, hx, TC.F.cl, TC.F.nR, flds_r _ _, .ref y, rfl, y, C, dy, _, _, rfl, hy, TC.F.cl, TC.F.nR, flds_r _ _, e, e2, ka, kb, g, rfl, rfl, he, he2, hp rfl rfl, ?_⟩
          rw [decide_eq_true (⟨rfl, rfl⟩ : C = C ∧ z = z), Bool.true_and] at q
          exact q
        · rw [decide_eq_false (fun h : V.int (z : Nat) = V.int (zy : Nat) => hz (by have := V.int.inj h; omega))]
          rw [decide_eq_false (fun h : C = C ∧ z = zy => hz h.2), Bool.false_and] at q
          exact iteF q
      · rw [decide_eq_false hc]
        rw [decide_eq_false (fun h : C = C2 ∧ z = zy => hc h.1), Bool.false_and] at q
        exact iteF q
    · exact ⟨v, rfl, v, .ref D, .type T, .ref D, _, rfl, .own _, o.tyx, kit_oth o h1 h2, _, rfl, iteT q⟩
end
/-! ### != of dicts, whatever it comes to -/
section
open PySem.W PySem PySem.Builtin
variable {K : Type} [DecidableEq K] {prog : Program} {w : World} {A : Around} {s : Shared} {knd : KeyKind prog w K}
theorem rcP_dicts_ne {a b : Addr} {ka kb : List (K × Value)} {r : Bool} (ha : (a == sysModules) = false) (hb : (b == sysModules) = false)
    (da : s.heap.DictOf knd a ka) (db : s.heap.DictOf knd b kb) (hu : A.units < cLine) (hits : ka.length = kb.length → KeqHitsP prog w A.in1 s kb ka r) (E Q : Value → Shared → Prop) (h : Q (.bool (!(ka.length == kb.length && r))) s) : wpAny (model prog w) A (richCompare .NotEq (.ref a) (.ref b)) Q E s := by
  refine wpAny_richCompare_same_room (op := .NotEq) da.typeIs db.typeIs PySem.F.slot_dict_ne (wpAny_call_entry PySem.F.slot_dict_ne da.typeIs PySem.F.entry_dict_ne ?_ (PySem.F.args_dict_ne_2 _ _)) hu
  show wpAny _ _ (Builtin.Dict.dictSlotArgs "__ne__" ⟨[.ref a, .ref b], []⟩ >>= _) _ _ s
  refine wpAny_bind ?_
  unfold Builtin.Dict.dictSlotArgs
  refine wpAny_bind (wpAny_notOrdered_dict da.typeIs ?_)
  show wpAny _ _ (pure (Value.ref a, Value.ref b)) _ _ s
  refine wpAny_pure ?_
  refine wpAny_bind (wpAny_isInstance (T := "dict") db.typeIs PySem.F.sub_dict_dict ?_)
  simp only [Bool.not_true, Bool.false_eq_true, if_false]
  refine wpAny_bind (wpAny_pure (wpAny_bind (wpAny_pure ?_)))
  refine wpAny_bind (samePairsP ha hb da db hits ?_)
  refine wpAny_pure ⟨_, rfl, ?_, ?_⟩
  · exact fun x => nomatch x
  · simpa using h
end
def rNeG (K : PySem.W.Frag) : R2 := fun x y H Q => ∃ (a b : Addr) (ks ls : List (Key × V)) (f : Key × V → Bool), x = .ref a ∧ y = .ref b ∧ H a = some (.dK ks) ∧ H b = some (.dK ls) ∧
  (∀ p ∈ ks, (valV ls p.1 = none ∧ f p = false) ∨ ∃ u d d2, valV ls p.1 = some u ∧ Dp K H p.2 d ∧ Dp K H u d2 ∧ SeqAt.shaped d = true ∧ SeqAt.shaped d2 = true ∧ f p = PyData.eqv d d2) ∧ Q (.bl (!(ks.length == ls.length && ks.all f))) H
theorem op_neG {X : Cx} (hu : X.A.units + 65 < cLine) : OpR X (compareOp .NotEq) (rNeG X.K) := by
  intro pins s σ H x y v u Q I rx ry h
  obtain ⟨a, b, ks, ls, f, rfl, rfl, ha, hb, hp, q⟩ := h
  cases (show v = Value.ref a from rx)
  cases (show u = Value.ref b from ry)
  obtain ⟨_, ya, va, ra, da⟩ := (show ObjOk X.prog X.w H s.heap a (.dK ks) from I.hok a _ ha)
  obtain ⟨_, yb, vb, rb, db⟩ := (show ObjOk X.prog X.w H s.heap b (.dK ls) from I.hok b _ hb)
  refine rcP_dicts_ne (knd := mixKind X.prog X.w) (r := ks.all f) ya yb da db (by omega) (fun _ => hits_gen rb f ra fun p hm => ?_) _ _ ?_
  · rcases hp p hm with h | ⟨u, d, d2, e, h1, h2, s1, s2, ef⟩
    · exact .inl h
    · refine .inr ⟨u, e, fun v y r1 r2 => ?_⟩
      obtain ⟨as, q1⟩ := Dp.reads I d _ v h1 r1
      obtain ⟨bs, q2⟩ := Dp.reads I d2 u y h2 r2
      have z := SeqAt.eqAt_reads d d2 X.A.in1 s v y as bs q1 q2 (SeqAt.canLay_of_shaped s1) (SeqAt.canLay_of_shaped s2) (SeqAt.room_of_shaped s1 (show X.A.units + 1 + 64 < cLine by omega))
      rw [ef]
      exact z.eqP
  · rw [← ra.length, ← rb.length]
    exact ⟨.bl _, H, I, rfl, q⟩

/-! ### what the rows hold: one of two values -/
def vB (kind : Nat) (b : Bool) : PyData := match kind with
  | 0 => .int (if b then 2 else 1)
  | 1 => .str (if b then "b" else "a")
  | _ => .tuple (if b then [.str "a", .str "b"] else [.str "a"])
theorem vB_sh (k : Nat) (b : Bool) : SeqAt.shaped (vB k b) = true := by
  match k, b with
  | 0, false => decide +kernel
  | 0, true => decide +kernel
  | 1, false => decide +kernel
  | 1, true => decide +kernel
  | _ + 2, false => exact (by decide +kernel : SeqAt.shaped (.tuple [.str "a"]) = true)
  | _ + 2, true => exact (by decide +kernel : SeqAt.shaped (.tuple [.str "a", .str "b"]) = true)
theorem vB_eqv (k : Nat) (a b : Bool) : PyData.eqv (vB k a) (vB k b) = decide (a = b) := by
  match k, a, b with
  | 0, false, false => rfl
  | 0, false, true => rfl
  | 0, true, false => rfl
  | 0, true, true => rfl
  | 1, false, false => rfl
  | 1, false, true => rfl
  | 1, true, false => rfl
  | 1, true, true => rfl
  | _ + 2, false, false => rfl
  | _ + 2, false, true => rfl
  | _ + 2, true, false => rfl
  | _ + 2, true, true => rfl
abbrev BL := List (Str × Bool)
theorem nd_lenB : ∀ {l m : BL}, l.Nodup → (∀ x ∈ l, x ∈ m) → l.length ≤ m.length
  | [], _, _, _ => Nat.zero_le _
  | x :: l, m, nd, h => by
    obtain ⟨n1, n2⟩ := List.nodup_cons.mp nd
    have hx := h x List.mem_cons_self
    have := nd_lenB (l := l) (m := m.erase x) n2 fun y hy => (List.mem_erase_of_ne (fun e : y = x => n1 (by rw [← e]; exact hy))).mpr (h y (List.mem_cons_of_mem _ hy))
    rw [List.length_erase_of_mem hx] at this
    have p : 0 < m.length := List.length_pos_of_mem hx
    rw [List.length_cons]
    omega
structure Rws (K : PySem.W.Frag) (H : Hp) (kind : Nat) (ka : List (Key × V)) (ls : BL) : Prop where
  nd : (ka.map (·.1)).Nodup
  len : ka.length = ls.length
  row : ∀ p ∈ ka, ∃ r ∈ ls, p.1 = .inr r.1 ∧ Dp K H p.2 (vB kind r.2)
  key : ∀ r ∈ ls, (.inr r.1 : Key) ∈ ka.map (·.1)
def gB (ls ls' : BL) (p : Key × V) : Bool := decide (∃ r ∈ ls, p.1 = .inr r.1 ∧ r ∈ ls')
theorem row_uniq {ls : BL} (nd : (ls.map (·.1)).Nodup) {r s : Str × Bool} (hr : r ∈ ls) (hs : s ∈ ls) (e : r.1 = s.1) : r = s := by
  induction ls with
  | nil => exact absurd hr List.not_mem_nil
  | cons x ls ih =>
    rw [List.map_cons, List.nodup_cons] at nd
    rcases List.mem_cons.mp hr with e1 | h1 <;> rcases List.mem_cons.mp hs with e2 | h2
    · rw [e1, e2]
    · exact absurd (by rw [← e1, e]; exact List.mem_map.mpr ⟨s, h2, rfl⟩) nd.1
    · exact absurd (by rw [← e2, ← e]; exact List.mem_map.mpr ⟨r, h1, rfl⟩) nd.1
    · exact ih nd.2 h1 h2
theorem nd_pairs {ls : BL} (nd : (ls.map (·.1)).Nodup) : ls.Nodup := List.Pairwise.of_map (·.1) (fun _ _ h e => h (by rw [e])) nd
theorem Rws.at {K : PySem.W.Frag} {H : Hp} {kind : Nat} {ka kb : List (Key × V)} {ls ls' : BL} (h : Rws K H kind ka ls) (h' : Rws K H kind kb ls') (nd : (ls.map (·.1)).Nodup) (nd' : (ls'.map (·.1)).Nodup) : ∀ p ∈ ka, (valV kb p.1 = none ∧ gB ls ls' p = false) ∨ ∃ u d d2, valV kb p.1 = some u ∧ Dp K H p.2 d ∧ Dp K H u d2 ∧ SeqAt.shaped d = true ∧ SeqAt.shaped d2 = true ∧ gB ls ls' p = PyData.eqv d d2 := fun p hp => by
  obtain ⟨r, hr, ep, dp⟩ := h.row p hp
  have eg : gB ls ls' p = decide (r ∈ ls') := decide_eq_decide.mpr ⟨fun ⟨s, hs, e, m⟩ => by
    rw [ep] at e
    rw [row_uniq nd hr hs (Sum.inr.inj e)]
    exact m, fun m => ⟨r, hr, ep, m⟩⟩
  by_cases hk : r.1 ∈ ls'.map (·.1)
  · obtain ⟨r', hr', e'⟩ := List.mem_map.mp hk
    obtain ⟨q, hq, eq⟩ := List.mem_map.mp (h'.key r' hr')
    obtain ⟨r2, hr2, e2, dq⟩ := h'.row q hq
    rw [eq] at e2
    obtain rfl := row_uniq nd' hr' hr2 (Sum.inr.inj e2)
    refine .inr ⟨q.2, _, _, ?_, dp, dq, vB_sh _ _, vB_sh _ _, ?_⟩
    · rw [ep, ← e', ← eq]
      exact valV_some h'.nd hq
    · rw [eg, vB_eqv]
      refine decide_eq_decide.mpr ⟨fun m => by rw [row_uniq nd' m hr' e'.symm], fun e => ?_⟩
      have : r = r' := Prod.ext e'.symm e
      rw [this]
      exact hr'
  · refine .inl ⟨?_, by rw [eg]; exact decide_eq_false fun m => hk (List.mem_map.mpr ⟨r, m, rfl⟩)⟩
    cases hv : valV kb p.1 with
    | none => rfl
    | some v =>
      exfalso
      obtain ⟨q, hq, eq⟩ := List.mem_map.mp (valV_mem.mp (show (valV kb p.1).isSome = true by rw [hv]; rfl))
      obtain ⟨r2, hr2, e2, _⟩ := h'.row q hq
      rw [eq, ep] at e2
      exact hk (List.mem_map.mpr ⟨r2, hr2, (Sum.inr.inj e2).symm⟩)
theorem Rws.all {K : PySem.W.Frag} {H : Hp} {kind : Nat} {ka kb : List (Key × V)} {ls ls' : BL} (h : Rws K H kind ka ls) (h' : Rws K H kind kb ls') (nd : (ls.map (·.1)).Nodup) (nd' : (ls'.map (·.1)).Nodup) : (ka.length == kb.length && ka.all (gB ls ls')) = true ↔ ls.Perm ls' := by
  rw [Bool.and_eq_true, beq_iff_eq, List.all_eq_true, h.len, h'.len]
  constructor
  · rintro ⟨hl, hall⟩
    have sub : ∀ r ∈ ls, r ∈ ls' := fun r hr => by
      obtain ⟨p, hp, ep⟩ := List.mem_map.mp (h.key r hr)
      obtain ⟨s, hs, e, m⟩ := of_decide_eq_true (hall p hp)
      rw [ep] at e
      rw [row_uniq nd hr hs (Sum.inr.inj e)]
      exact m
    refine (List.perm_ext_iff_of_nodup (nd_pairs nd) (nd_pairs nd')).mpr fun r => ⟨sub r, fun hr => Classical.byContradiction fun n => ?_⟩
    have := nd_lenB (l := r :: ls) (m := ls') (List.nodup_cons.mpr ⟨n, nd_pairs nd⟩) fun x hx => by
      rcases List.mem_cons.mp hx with rfl | hx
      · exact hr
      · exact sub x hx
    rw [List.length_cons] at this
    omega
  · intro pm
    refine ⟨pm.length_eq, fun p hp => ?_⟩
    obtain ⟨r, hr, ep, _⟩ := h.row p hp
    exact decide_eq_true ⟨r, hr, ep, pm.mem_iff.mp hr⟩
theorem Rws.perm {K : PySem.W.Frag} {H : Hp} {kind : Nat} {ka : List (Key × V)} {ls ls' : BL} (h : Rws K H kind ka ls) (p : ls.Perm ls') : Rws K H kind ka ls' := ⟨h.nd, h.len.trans p.length_eq, fun q hq => by
  obtain ⟨r, hr, e⟩ := h.row q hq
  exact ⟨r, p.mem_iff.mp hr, e⟩, fun r hr => h.key r (p.mem_iff.mpr hr)⟩
mutual
theorem dp_same {K : PySem.W.Frag} {H H' : Hp} (s : Same H H') : ∀ {v : V} {d : PyData}, Dp K H v d → Dp K H' v d
  | _, _, .non => .non
  | _, _, .bl b => .bl b
  | _, _, .int i => .int i
  | _, _, .str x => .str x
  | _, _, .lst h t => .lst (s.seq h) (dpA_same s t)
  | _, _, .tup h t => .tup (SqT.same s h) (dpA_same s t)
theorem dpA_same {K : PySem.W.Frag} {H H' : Hp} (s : Same H H') : ∀ {vs : List V} {ds : List PyData}, DpAll K H vs ds → DpAll K H' vs ds
  | _, _, .nil => .nil
  | _, _, .cons h t => .cons (dp_same s h) (dpA_same s t)
end
theorem Rws.move {K : PySem.W.Frag} {H H' : Hp} {kind : Nat} {ka : List (Key × V)} {ls : BL} (s : Same H H') (h : Rws K H kind ka ls) : Rws K H' kind ka ls := ⟨h.nd, h.len, fun p hp => by
  obtain ⟨r, hr, e, d⟩ := h.row p hp
  exact ⟨r, hr, e, dp_same s d⟩, h.key⟩
/-- rows given as a dict, in their order -/
def RowB (K : PySem.W.Frag) (H : Hp) (kind : Nat) (kv : Key × V) (r : Str × Bool) : Prop := kv.1 = .inr r.1 ∧ Dp K H kv.2 (vB kind r.2)
def LinesAt (K : PySem.W.Frag) (H : Hp) (kind : Nat) (d : Addr) (ls : BL) : Prop := ∃ ka, H d = some (.dK ka) ∧ Paired (RowB K H kind) ka ls
theorem rws_of {K : PySem.W.Frag} {H : Hp} {kind : Nat} : ∀ {ka : List (Key × V)} {ls : BL}, Paired (RowB K H kind) ka ls → ka.map (·.1) = (ls.map (·.1)).map Sum.inr ∧ (∀ p ∈ ka, ∃ r ∈ ls, p.1 = .inr r.1 ∧ Dp K H p.2 (vB kind r.2))
  | _, _, .nil => ⟨rfl, fun _ h => absurd h List.not_mem_nil⟩
  | _, _, .cons h t => by
    obtain ⟨h1, h2⟩ := rws_of t
    refine ⟨by rw [List.map_cons, List.map_cons, List.map_cons, h1, h.1], fun p hp => ?_⟩
    rcases List.mem_cons.mp hp with rfl | hp
    · exact ⟨_, List.mem_cons_self, h⟩
    · obtain ⟨r, hr, e⟩ := h2 p hp
      exact ⟨r, List.mem_cons_of_mem _ hr, e⟩
theorem rws_paired {K : PySem.W.Frag} {H : Hp} {kind : Nat} {ka : List (Key × V)} {ls : BL} (h : Paired (RowB K H kind) ka ls) (nd : (ls.map (·.1)).Nodup) : Rws K H kind ka ls := by
  obtain ⟨h1, h2⟩ := rws_of h
  refine ⟨by rw [h1]; exact nd.map Sum.inr fun _ _ n e => n (Sum.inr.inj e), by have := congrArg List.length h1; simpa using this, h2, fun r hr => ?_⟩
  rw [h1]
  exact List.mem_map.mpr ⟨r.1, List.mem_map.mpr ⟨r, hr, rfl⟩, rfl⟩

def clB (cN cC cW : Addr) (kind : Nat) : Addr := match kind with
  | 0 => cN
  | 1 => cC
  | _ => cW
def MapX (K : PySem.W.Frag) (cl : Nat → Addr) (H : Hp) (kind : Nat) (x : Addr) (z : Nat) (ls : BL) : Prop := ∃ (e dx : Addr) (ka : List (Key × V)), H x = some (.ins (cl kind) dx (flds z e)) ∧ H e = some (.dK ka) ∧ Rws K H kind ka ls
theorem MapX.same {K : PySem.W.Frag} {cl : Nat → Addr} {H H' : Hp} {kind : Nat} {x : Addr} {z : Nat} {ls : BL} (s : Same H H') (h : MapX K cl H kind x z ls) : MapX K cl H' kind x z ls := by
  obtain ⟨e, dx, ka, h1, h2, h3⟩ := h
  exact ⟨e, dx, ka, s _ _ h1, s _ _ h2, h3.move s⟩
def spMk (K : PySem.W.Frag) (cl : Nat → Addr) : Sp := fun vs H Q _ => ∃ (kind z : Nat) (d : Addr) (ls : BL), vs = [.int kind, .int z, .ref d] ∧ kind < 3 ∧ 1 ≤ z ∧ z ≤ 32 ∧ LinesAt K H kind d ls ∧ PfxL z (ls.map (·.1)) ∧ ls.length ≤ 20 ∧
  ∀ (x : Addr) (H' : Hp), H x = none → Same H H' → MapX K cl H' kind x z ls → Q (.ref x) H'
theorem dp_int {K : PySem.W.Frag} {H : Hp} {v : V} {i : Int} (h : Dp K H v (.int i)) : v = .int i := by cases h; rfl
theorem dp_str {K : PySem.W.Frag} {H : Hp} {v : V} {x : Str} (h : Dp K H v (.str x)) : v = .str x := by cases h; rfl
def tB (b : Bool) : List (Option Str) := if b then [some "a", some "b"] else [some "a"]
def wB (ls : BL) : WRows := ls.map fun r => (r.1, tB r.2)
theorem vB_tup (b : Bool) : vB 2 b = .tuple ((tB b).map optD) := by cases b <;> rfl
theorem dp_tup {K : PySem.W.Frag} {H : Hp} {v : V} {b : Bool} (h : Dp K H v (vB 2 b)) : ∃ a, v = .ref a ∧ SqT K H a ((tB b).map optV) := by
  cases b with
  | false =>
    have h' : Dp K H v (.tuple [.str "a"]) := h
    cases h' with
    | tup h t =>
      cases t with
      | cons h1 t =>
        cases t
        rw [dp_str h1] at h
        exact ⟨_, rfl, h⟩
  | true =>
    have h' : Dp K H v (.tuple [.str "a", .str "b"]) := h
    cases h' with
    | tup h t =>
      cases t with
      | cons h1 t =>
        cases t with
        | cons h2 t =>
          cases t
          rw [dp_str h1, dp_str h2] at h
          exact ⟨_, rfl, h⟩
theorem tB_ok (b : Bool) : OkL isT (tB b) := by
  cases b with
  | false => exact ⟨by decide +kernel, fun o ho => by rw [List.mem_singleton.mp ho]; show isT "a" = true; decide +kernel, by decide⟩
  | true =>
    refine ⟨by decide +kernel, fun o ho => ?_, by decide⟩
    rcases List.mem_cons.mp ho with rfl | ho
    · show isT "a" = true; decide +kernel
    · rw [List.mem_singleton.mp ho]; show isT "b" = true; decide +kernel
theorem tB_asc (b : Bool) : ascO (tB b) = tB b := by
  have h : ascO (tB b) = (ascO (tB b)) := rfl
  unfold ascO
  cases b with
  | false =>
    have e : sortS ((tB false).filterMap id) = ([("a" : Str)] : List Str) := (sortS_of (ys := [("a" : Str)]) (List.Perm.refl _) (by decide +kernel)).symm
    rw [e]
    rfl
  | true =>
    have e : sortS ((tB true).filterMap id) = ([("a" : Str), "b"] : List Str) := (sortS_of (ys := [("a" : Str), "b"]) (List.Perm.refl _) (by decide +kernel)).symm
    rw [e]
    rfl
theorem wB_keys (ls : BL) : (wB ls).map (·.1) = ls.map (·.1) := by
  unfold wB
  rw [List.map_map]
  rfl
theorem wB_look {ls : BL} (nd : (ls.map (·.1)).Nodup) {r : Str × Bool} (hr : r ∈ ls) : look (wB ls) r.1 = tB r.2 :=
  look_mem (by rw [wB_keys]; exact nd) (List.mem_map.mpr ⟨r, hr, rfl⟩)
theorem wB_ok {z : Nat} {ls : BL} (p : PfxL z (ls.map (·.1))) : RowsW isT z (wB ls) := ⟨by rw [wB_keys]; exact p, fun r hr => by
  obtain ⟨s, _, rfl⟩ := List.mem_map.mp hr
  exact tB_ok s.2⟩
theorem wB_in {K : PySem.W.Frag} {H : Hp} : ∀ {ka : List (Key × V)} {ls : BL}, Paired (RowB K H 2) ka ls → InVal K H ka (wB ls)
  | _, _, .nil => .nil
  | _, _, .cons h t => by
    obtain ⟨a, e, sq⟩ := dp_tup h.2
    exact .cons ⟨h.1, a, e, .inr sq⟩ (wB_in t)
theorem dpA_opt {K : PySem.W.Frag} {H : Hp} : ∀ l : List (Option Str), DpAll K H (l.map optV) (l.map optD)
  | [] => .nil
  | none :: l => .cons .non (dpA_opt l)
  | some x :: l => .cons (.str x) (dpA_opt l)
/-- a table's or a plain map's rows, put in order -/
theorem Sorted.rws {K : PySem.W.Frag} {H H' : Hp} {kind : Nat} {ka kb : List (Key × V)} {ls : BL} {ys : List Str} (s : ∀ {v : V} {b : Bool}, Dp K H v (vB kind b) → Dp K H' v (vB kind b)) (h : Sorted (ls.map (·.1)) ka kb ys) (r : Rws K H kind ka ls) (nd : (ls.map (·.1)).Nodup) : Rws K H' kind kb ls := by
  have ynd : ys.Nodup := h.perm.nodup_iff.mpr nd
  have kn : (kb.map (·.1)).Nodup := by
    rw [h.keys]
    exact ynd.map Sum.inr fun _ _ n e => n (Sum.inr.inj e)
  refine ⟨kn, ?_, fun p hp => ?_, fun q hq => ?_⟩
  · have l1 := congrArg List.length h.keys
    have l2 := h.perm.length_eq
    simp only [List.length_map] at l1 l2
    omega
  · have hm : p.1 ∈ ys.map Sum.inr := by
      rw [← h.keys]
      exact List.mem_map.mpr ⟨p, hp, rfl⟩
    obtain ⟨y, hy, e⟩ := List.mem_map.mp hm
    have hx := h.perm.mem_iff.mp hy
    have v1 := valV_some kn (k := p.1) (v := p.2) hp
    rw [← e, h.val y hx] at v1
    obtain ⟨q, hq, eq⟩ := List.mem_map.mp (valV_mem.mp (show (valV ka (.inr y)).isSome = true by rw [v1]; rfl))
    obtain ⟨r1, hr1, e1, d1⟩ := r.row q hq
    have v2 := valV_some r.nd (k := q.1) (v := q.2) hq
    rw [eq, v1] at v2
    refine ⟨r1, hr1, by rw [← e, ← eq, e1], ?_⟩
    rw [Option.some.inj v2]
    exact s d1
  · rw [h.keys]
    exact List.mem_map.mpr ⟨q.1, h.perm.mem_iff.mpr (List.mem_map.mpr ⟨q, hq, rfl⟩), rfl⟩
/-- a wish's rows -/
theorem WVal.rws {K : PySem.W.Frag} {H : Hp} {kb : List (Key × V)} {ls : BL} (h : WVal H kb (sortW (wB ls))) (nd : (ls.map (·.1)).Nodup) : Rws K H 2 kb ls := by
  have keys : kb.map (·.1) = (sortS (ls.map (·.1))).map Sum.inr := by rw [h.keys, sortW_keys, wB_keys]
  have pm := sortS_perm (ls.map (·.1))
  have ynd := pm.nodup_iff.mpr nd
  have kn : (kb.map (·.1)).Nodup := by
    rw [keys]
    exact ynd.map Sum.inr fun _ _ n e => n (Sum.inr.inj e)
  refine ⟨kn, ?_, fun p hp => ?_, fun q hq => ?_⟩
  · have l1 := congrArg List.length keys
    have l2 := pm.length_eq
    simp only [List.length_map] at l1 l2
    omega
  · have hm : p.1 ∈ (sortS (ls.map (·.1))).map Sum.inr := by
      rw [← keys]
      exact List.mem_map.mpr ⟨p, hp, rfl⟩
    obtain ⟨y, hy, e⟩ := List.mem_map.mp hm
    obtain ⟨r, hr, e1⟩ := List.mem_map.mp (pm.mem_iff.mp hy)
    obtain ⟨a, va, ha⟩ := h.at (y := y) (by rw [sortW_keys, wB_keys]; exact hy)
    rw [look_sortW (by rw [wB_keys]; exact nd) (by rw [wB_keys]; exact pm.mem_iff.mp hy), ← e1, wB_look nd hr, tB_asc] at ha
    have v1 := valV_some kn (k := p.1) (v := p.2) hp
    rw [← e, va] at v1
    refine ⟨r, hr, by rw [← e, e1], ?_⟩
    rw [← Option.some.inj v1, vB_tup]
    exact .tup (SqT.of ha) (dpA_opt _)
  · rw [keys]
    exact List.mem_map.mpr ⟨q.1, pm.mem_iff.mpr (List.mem_map.mpr ⟨q, hq, rfl⟩), rfl⟩
abbrev sMm : Stmt := top 26
section
variable {P : Program} {w : World} {K : PySem.W.Frag} {mg : Str → Option Value} {base : Heap}
abbrev NMm : List Str := ["kind", "size", "lines"]
theorem scMm : FnScope NMm ["kind", "size", "lines"] (defScope sMm) := ⟨rfl, rfl, rfl, by decide +kernel, rfl, by decide +kernel, by decide +kernel⟩
set_option maxHeartbeats 8000000 in
theorem ok_Mm {f fUN fT fWT CD CC CW : Addr} {fd fdUN fdT fdWT : FuncData} {k : Nat} (F : Fun K "_law_made" "_law_made" sMm f fd)
    (GUN : FnOk P w K mg base CX0 k fUN fdUN ["self", "width", "rows"] (spInit K CD isIntV))
    (MD : Mk K CD fUN) (gD : mg "PrefixMap" = some (.ref CD))
    (bUN : Binds K fdUN ["self", "width", "rows"] [])
    (GT : FnOk P w K mg base CX0 k fT fdT ["self", "width", "rows"] (spInit K CC isTgtV))
    (MC : Mk K CC fT) (gC : mg "Table" = some (.ref CC))
    (bT : Binds K fdT ["self", "width", "rows"] [])
    (GWT : FnOk P w K mg base CX0 k fWT fdWT ["self", "width", "rows"] (spInitW K CW))
    (MW : Mk K CW fWT) (gW : mg "Wish" = some (.ref CW))
    (bWT : Binds K fdWT ["self", "width", "rows"] [])
    : FnOk P w K mg base CX0 (k + 2) f fd ["kind", "size", "lines"] ((spMk K (clB CD CC CW))) := by
  refine F.ok scMm (fun vs H Q E h => ?_) (fun cdv A outer s H vs Q E hr h => ?_)
  · obtain ⟨kind, z, d, ls, rfl, _⟩ := h
    rfl
  · obtain ⟨kind, z, d, ls, rfl, hk, z1, z32, hl, pf, few, q⟩ := h
    have nd := scMm.nd
    have hu := hr.units
    have hu1 := hu_of hr
    have hr1 := hr.mono (Nat.le_succ k)
    refine ⟨_, pss_cons (ps_if (pt_cmpR op_eq (pv 0) pe_int (nomark _))
        (pss_one (ps_ret (pe_make MD GUN hr (by rfl) gD bUN .nil pass0 (pa_cons (pv 1) (pa_cons (pv 2) pa_nil))))) pss_nil)
      (pss_one (ps_ret (pe_ifExp (pt_cmpR op_eq (pv 0) pe_int (nomark _)) (pe_make MC GT hr (by rfl) gC bT .nil pass0 (pa_cons (pv 1) (pa_cons (pv 2) pa_nil))) (pe_make MW GWT hr (by rfl) gW bWT .nil pass0 (pa_cons (pv 1) (pa_cons (pv 2) pa_nil)))))), ?_⟩
    obtain ⟨ka, hd, pr⟩ := hl
    have rw0 := rws_paired pr pf.nd
    have keys := (rws_of pr).1
    have ll : (ls.map (·.1)).length = ls.length := List.length_map ..
    obtain rfl | rfl | rfl : kind = 0 ∨ kind = 1 ∨ kind = 2 := by omega
    · refine ⟨.int ((0 : Nat) : Int), rfl, rfl, _, rfl, ?_⟩
      rw [decide_eq_true (show V.int ((0 : Nat) : Int) = V.int 0 from rfl)]
      refine iteT ⟨.int z, rfl, .ref d, rfl, fun x dx nx ndx nex => ?_⟩
      refine ⟨x, dx, d, z, ls.map (·.1), ka, rfl, upd_same, z1, z32, by rw [upd_ne (ne_of_none hd nx), upd_ne (ne_of_none hd ndx)]; exact hd, ⟨keys, pf, fun kv hkv => ?_⟩, by omega, fun e ys kb H6 ne hs hm kp6 => ⟨rfl, ?_⟩⟩
      · obtain ⟨r, _, _, dp⟩ := rw0.row kv hkv
        rw [dp_int dp]
        trivial
      · obtain ⟨⟨dx', hx'⟩, he'⟩ := hm
        have sM : Same H H6 := Same.made nx ndx kp6
        exact q x H6 nx sM ⟨e, dx', kb, hx', he', hs.rws (fun d => dp_same sM d) rw0 pf.nd⟩
    · refine ⟨.int ((1 : Nat) : Int), rfl, rfl, _, rfl, ?_⟩
      rw [decide_eq_false (fun e : V.int ((1 : Nat) : Int) = V.int 0 => by cases e)]
      refine iteF ⟨.int ((1 : Nat) : Int), rfl, rfl, _, rfl, ?_⟩
      rw [decide_eq_true (show V.int ((1 : Nat) : Int) = V.int 1 from rfl)]
      refine iteT ⟨.int z, rfl, .ref d, rfl, fun x dx nx ndx nex => ?_⟩
      refine ⟨x, dx, d, z, ls.map (·.1), ka, rfl, upd_same, z1, z32, by rw [upd_ne (ne_of_none hd nx), upd_ne (ne_of_none hd ndx)]; exact hd, ⟨keys, pf, fun kv hkv => ?_⟩, by omega, fun e ys kb H6 ne hs hm kp6 => ⟨rfl, ?_⟩⟩
      · obtain ⟨r, _, _, dp⟩ := rw0.row kv hkv
        rw [dp_str dp]
        cases r.2
        · show isTgt (.str "a") = true; decide +kernel
        · show isTgt (.str "b") = true; decide +kernel
      · obtain ⟨⟨dx', hx'⟩, he'⟩ := hm
        have sM : Same H H6 := Same.made nx ndx kp6
        exact q x H6 nx sM ⟨e, dx', kb, hx', he', hs.rws (fun d => dp_same sM d) rw0 pf.nd⟩
    · refine ⟨.int ((2 : Nat) : Int), rfl, rfl, _, rfl, ?_⟩
      rw [decide_eq_false (fun e : V.int ((2 : Nat) : Int) = V.int 0 => by cases e)]
      refine iteF ⟨.int ((2 : Nat) : Int), rfl, rfl, _, rfl, ?_⟩
      rw [decide_eq_false (fun e : V.int ((2 : Nat) : Int) = V.int 1 => by cases e)]
      refine iteF ⟨.int z, rfl, .ref d, rfl, fun x dx nx ndx nex => ?_⟩
      have sU : Same H (upd (upd H dx (.own x)) x (.ins CW dx [])) := fun b o e => by rw [upd_ne (ne_of_none e nx), upd_ne (ne_of_none e ndx)]; exact e
      refine ⟨x, dx, d, z, ka, wB ls, rfl, upd_same, z1, z32, sU _ _ hd, (wB_in pr).same sU, wB_ok pf, by unfold wB; rw [List.length_map]; omega, fun e H6 ne hw kp6 => ⟨rfl, ?_⟩⟩
      obtain ⟨kb, ⟨⟨dx', hx'⟩, he'⟩, wv⟩ := hw.map
      have sM : Same H H6 := Same.made nx ndx kp6
      exact q x H6 nx sM ⟨e, dx', kb, hx', he', wv.rws pf.nd⟩
end
theorem cut_one (xs : List V) : cutV xs (some 1) none = xs.drop 1 := by
  unfold cutV
  rw [show HT.sIx xs.length 0 (some 1) = min 1 xs.length from HT.sIx_nat _ _ 1, HT.sIx_none]
  cases xs with
  | nil => rfl
  | cons x r =>
    rw [show min 1 (x :: r).length = 1 by rw [List.length_cons]; omega]
    exact List.take_of_length_le (by rw [List.length_drop]; exact Nat.le_refl _)

theorem sqt_off {K : PySem.W.Frag} {H H' : Hp} {d a : Addr} {o0 : HO} {xs : List V} (hd : H d = some o0) (n1 : ∀ xs, o0 ≠ .tup xs) (n2 : ∀ o xs, o0 ≠ .frz o (.tup xs)) (k : ∀ b o, b ≠ d → H b = some o → H' b = some o) : SqT K H a xs → SqT K H' a xs
  | .inl (.inl h) => .inl (.inl (k a _ (fun e => by rw [e, hd] at h; exact n1 _ (Option.some.inj h)) h))
  | .inl (.inr ⟨o, h⟩) => .inl (.inr ⟨o, k a _ (fun e => by rw [e, hd] at h; exact n2 _ _ (Option.some.inj h)) h⟩)
  | .inr h => .inr h
theorem dp_off {K : PySem.W.Frag} {H H' : Hp} {d : Addr} {o0 : HO} {v : V} {kind : Nat} {b : Bool} (hd : H d = some o0) (n1 : ∀ xs, o0 ≠ .tup xs) (n2 : ∀ o xs, o0 ≠ .frz o (.tup xs)) (k : ∀ b o, b ≠ d → H b = some o → H' b = some o) (h : Dp K H v (vB kind b)) : Dp K H' v (vB kind b) := by
  match kind, h with
  | 0, h => rw [dp_int h]; exact .int _
  | 1, h => rw [dp_str h]; exact .str _
  | n + 2, h =>
    obtain ⟨a, rfl, sq⟩ := dp_tup h
    have e : vB (n + 2) b = .tuple ((tB b).map optD) := vB_tup b
    rw [e]
    exact .tup (sqt_off hd n1 n2 k sq) (dpA_opt _)
theorem rowB_off {K : PySem.W.Frag} {H H' : Hp} {d : Addr} {o0 : HO} {kind : Nat} (hd : H d = some o0) (n1 : ∀ xs, o0 ≠ .tup xs) (n2 : ∀ o xs, o0 ≠ .frz o (.tup xs)) (k : ∀ b o, b ≠ d → H b = some o → H' b = some o) {ka : List (Key × V)} {ls : BL} (h : Paired (RowB K H kind) ka ls) : Paired (RowB K H' kind) ka ls := h.mono fun _ _ ⟨e, dp⟩ => ⟨e, dp_off hd n1 n2 k dp⟩
theorem rowB_same {K : PySem.W.Frag} {H H' : Hp} {kind : Nat} (s : Same H H') {ka : List (Key × V)} {ls : BL} (h : Paired (RowB K H kind) ka ls) : Paired (RowB K H' kind) ka ls := h.mono fun _ _ ⟨e, dp⟩ => ⟨e, dp_same s dp⟩
theorem prd_drop1 {α β : Type} {R : α → β → Prop} : ∀ {as : List α} {bs : List β}, Paired R as bs → Paired R (as.drop 1) (bs.drop 1)
  | _, _, .nil => .nil
  | _, _, .cons _ t => t
theorem prd_app {α β : Type} {R : α → β → Prop} : ∀ {as as' : List α} {bs bs' : List β}, Paired R as bs → Paired R as' bs' → Paired R (as ++ as') (bs ++ bs')
  | _, _, _, _, .nil, h => h
  | _, _, _, _, .cons a t, h => .cons a (prd_app t h)
theorem PfxL.drop1 {z : Nat} {ls : BL} (h : PfxL z (ls.map (·.1))) : PfxL z ((ls.drop 1).map (·.1)) := by
  rw [List.map_drop]
  exact ⟨h.nd.sublist (List.drop_sublist _ _), fun x hx => h.bits x (List.mem_of_mem_drop hx), fun x hx => h.len x (List.mem_of_mem_drop hx)⟩
theorem PfxL.snoc {z : Nat} {ls : BL} (h : PfxL z (ls.map (·.1))) {x : Str} {b : Bool} (n : x ∉ ls.map (·.1)) (hb : isBits x = true) (hl : x.length ≤ z) : PfxL z ((ls ++ [(x, b)]).map (·.1)) := by
  rw [List.map_append]
  refine ⟨List.nodup_append.mpr ⟨h.nd, List.nodup_cons.mpr ⟨List.not_mem_nil, List.nodup_nil⟩, fun a ha c hc e => n (by have hc' : c = x := List.mem_singleton.mp hc; rw [← hc', ← e]; exact ha)⟩, fun y hy => ?_, fun y hy => ?_⟩ <;> rcases List.mem_append.mp hy with hy | hy
  · exact h.bits y hy
  · rw [List.mem_singleton.mp hy]; exact hb
  · exact h.len y hy
  · rw [List.mem_singleton.mp hy]; exact hl
def flipB (ls : BL) (y : Str) (b : Bool) : BL := ls.map fun r => if r.1 = y then (y, b) else r
theorem flip_keys (ls : BL) (y : Str) (b : Bool) : (flipB ls y b).map (·.1) = ls.map (·.1) := by
  unfold flipB
  rw [List.map_map]
  refine List.map_congr_left fun r _ => ?_
  show (if r.1 = y then (y, b) else r).1 = r.1
  split
  · rename_i e; exact e.symm
  · rfl
theorem prd_flip {K : PySem.W.Frag} {H : Hp} {kind : Nat} {y : Str} {v : V} {b : Bool} (hv : Dp K H v (vB kind b)) {kvs : List (Key × V)} {ls : BL} (h : Paired (RowB K H kind) kvs ls) (hm : y ∈ ls.map (·.1)) : Paired (RowB K H kind) (putK kvs (.inr y) v) (flipB ls y b) := by
  have hk := (rws_of h).1
  have hm2 : (kvs.any fun kv => decide (kv.1 = Sum.inr y)) = true := by
    have : (Sum.inr y : Key) ∈ kvs.map (·.1) := by rw [hk]; exact List.mem_map.mpr ⟨y, hm, rfl⟩
    obtain ⟨p, hp, e⟩ := List.mem_map.mp this
    exact List.any_eq_true.mpr ⟨p, hp, decide_eq_true e⟩
  unfold putK flipB
  rw [if_pos hm2]
  clear hm hm2 hk
  induction h with
  | nil => exact .nil
  | cons q t ih =>
    rename_i kv r kvs rows
    refine .cons ?_ ih
    have e1 := q.1
    show RowB K H kind (if kv.1 = Sum.inr y then (kv.1, v) else kv) (if r.1 = y then (y, b) else r)
    by_cases e : r.1 = y
    · rw [if_pos (by rw [e1, e]), if_pos e, e1, e]
      exact ⟨rfl, hv⟩
    · rw [if_neg (by rw [e1]; exact fun z => e (Sum.inr.inj z)), if_neg e]
      exact q
def spOt (K : PySem.W.Frag) : Sp := fun vs H Q _ => ∃ (kind z : Nat) (d : Addr) (ls : BL) (v v2 : V), vs = [.ref d, v, v2] ∧ LinesAt K H kind d ls ∧ PfxL z (ls.map (·.1)) ∧ ls.length ≤ 10 ∧ 2 ≤ z ∧ Dp K H v (vB kind false) ∧ Dp K H v2 (vB kind true) ∧
  ∀ (R : Addr) (ds : List Addr) (H' : Hp), Same H H' → H R = none → H' R = some (.lst (ds.map V.ref)) → ds.length ≤ 20 → (∀ d' ∈ ds, ∃ ls' : BL, LinesAt K H' kind d' ls' ∧ PfxL z (ls'.map (·.1)) ∧ ls'.length ≤ 11 ∧ ¬ ls.Perm ls') → Q (.ref R) H'
abbrev sOt : Stmt := top 27
section
variable {P : Program} {w : World} {K : PySem.W.Frag} {mg : Str → Option Value} {base : Heap}
abbrev NOt : List Str := ["lines", "value", "other_value", "found", "prefix", "more", "some"]
theorem scOt : FnScope NOt ["lines", "value", "other_value"] (defScope sOt) := ⟨rfl, rfl, rfl, by decide +kernel, rfl, by decide +kernel, by decide +kernel⟩
set_option maxHeartbeats 8000000 in
theorem ok_Ot {f : Addr} {fd : FuncData} {k : Nat} (F : Fun K "_law_others" "_law_others" sOt f fd)
    (m_list : mg "list" = none)
    (m_dict : mg "dict" = none)
    : FnOk P w K mg base CX0 (k + 1) f fd ["lines", "value", "other_value"] ((spOt K)) := by
  refine F.ok scOt (fun vs H Q E h => ?_) (fun cdv A outer s H vs Q E hr h => ?_)
  · obtain ⟨kind, z, d, ls, v, v2, rfl, _⟩ := h
    rfl
  · obtain ⟨kind, z, d, ls, v, v2, rfl, hl, pf, few, z2, dv, dv2, q⟩ := h
    have nd := scOt.nd
    have hu := hr.units
    have hu1 := hu_of hr
    have hr1 := hr
    refine ⟨_, C8.pss_cut (ps_set (i := 3) nd rfl (.inl rfl) (pe_ifExp (pt_cmp (pc_dnotin hu1 pe_str (pv 0))) (pe_lst (pa_cons (pe_callTy (call_dictPn rfl) (by rfl) m_dict (by decide +kernel) (pa_cons (pe_slice sl_list (LiI.pe_listItems rfl (pv 0) (by rfl) m_list (by decide +kernel)) (po_some pe_int) po_none) pa_nil)) (pa_cons (pe_callTy (call_dictPn rfl) (by rfl) m_dict (by decide +kernel) (pa_cons (pe_op op_cat (LiI.pe_listItems rfl (pv 0) (by rfl) m_list (by decide +kernel)) (pe_lst (pa_cons (pe_tup (pa_cons pe_str (pa_cons (pv 1) pa_nil))) pa_nil))) pa_nil)) pa_nil))) (pe_lst pa_nil)))
      (pss_cons (ps_lock (ps_for PassesOwn.never rfl (pi_keys (pv 0)) (pg_name (i := 4) nd rfl (.inl rfl))
        (pss_cons (ps_set (i := 5) nd rfl (.inl rfl) (pe_callTy call_dictD (by rfl) m_dict (by decide +kernel) (pa_cons (pv 0) pa_nil)))
        (pss_cons (ps_dput hu1 (pv 5) (pv 4) (pe_ifExp (pt_cmpR (op_eqD hu) (pe_dget hu1 (pv 0) (pv 4) (fun _ _ => rfl)) (pv 1) (nomark _)) (pv 2) (pv 1)) rfl)
        (pss_one (ps_expr (pe_bm PySem.F.plainAttrs_list PySem.F.slot_list_append PySem.F.type_list_append mt_append (pv 3) (pa_cons (pv 5) pa_nil))))))))
      (pss_one (ps_ret (pe_lc (own := [("some", 6)]) (g := gName 6) rfl nd (pi_list (pv 3)) (blkOk_by (N := NOt) (sc := defScope sOt) (by decide +kernel)) (fun _ _ _ _ _ => pg_name (i := 6) nd rfl (.inl rfl)) (fun _ _ _ _ _ => pts_one (pt_cmpR (show OpR _ (compareOp .NotEq) (rNeG K) from op_neG (units65 hr)) (pv 6) (pv 0) (nomark _))) (fun _ _ _ _ _ => (pv 6)))))), ?_⟩
    obtain ⟨ka, hd, pr⟩ := hl
    have keys := (rws_of pr).1
    have rw0 := rws_paired pr pf.nd
    refine ⟨fun σ H' => ∃ (F : Addr) (ds : List Addr), σ = [some (.ref d), some v, some v2, some (.ref F), none, none, none] ∧ Same H H' ∧ H F = none ∧ H' F = some (.lst (ds.map V.ref)) ∧ ds.length ≤ 2 ∧ ∀ d' ∈ ds, ∃ (kb : List (Key × V)) (ls' : BL), H' d' = some (.dK kb) ∧ H d' = none ∧ d' ≠ F ∧ Paired (RowB K H' kind) kb ls' ∧ PfxL z (ls'.map (·.1)) ∧ ls'.length ≤ 11, ?_, ?_⟩
    · refine ⟨.ref d, rfl, d, _, rfl, DGet.k (k := .inr "11") hd, _, rfl, ?_⟩
      by_cases hin : (.inr ("11" : Str) : Key) ∈ ka.map (·.1)
      · rw [valV_mem.mpr hin]
        refine iteF ⟨by show 0 ≤ sizeLine; decide, fun F nF => ?_⟩
        exact ⟨F, [], rfl, same_upd nF, nF, upd_same, by decide, fun _ h => absurd h List.not_mem_nil⟩
      · rw [show (valV ka (.inr "11")).isSome = false from Bool.eq_false_iff.mpr fun h => hin (valV_mem.mp h)]
        have n11 : ("11" : Str) ∉ ls.map (·.1) := fun h => hin (by rw [keys]; exact List.mem_map.mpr ⟨_, h, rfl⟩)
        have lka : ka.length = ls.length := rw0.len
        refine iteT ⟨.ref d, rfl, d, ka, rfl, hd, fun H1 p1 ts1 k1 np1 nt1 ntp1 hp1 pr1 => ⟨1, rfl, p1, _, rfl, SqL.of hp1, fun q1 nq1 => ?_⟩⟩
        rw [cut_one, ← List.map_drop]
        generalize hh : upd H1 q1 _ = H2
        have s2 : Same H1 H2 := by rw [← hh]; exact same_upd nq1
        have hq1 : H2 q1 = some (.lst ((ts1.drop 1).map V.ref)) := by rw [← hh]; exact upd_same
        clear hh
        refine ⟨q1, ts1.drop 1, ka.drop 1, rfl, SqL.of hq1, (prd_drop1 pr1).mono fun _ _ h => SqT.of (s2 _ _ h), fun D1 nD1 => ?_⟩
        rw [mergeK_nd _ [] (by rw [List.nil_append, List.map_drop]; exact rw0.nd.sublist (List.drop_sublist _ _)), List.nil_append]
        generalize hh : upd H2 D1 _ = H3
        have s3 : Same H2 H3 := by rw [← hh]; exact same_upd nD1
        have hD1 : H3 D1 = some (.dK (ka.drop 1)) := by rw [← hh]; exact upd_same
        clear hh
        have k3 : Same H H3 := fun b o e => s3 _ _ (s2 _ _ (k1 _ _ e))
        have s12 : Same H H2 := fun b o e => s2 _ _ (k1 _ _ e)
        have nD1H : H D1 = none := s12.free nD1
        refine ⟨.ref d, rfl, d, ka, rfl, k3 _ _ hd, fun H4 p2 ts2 k4 np2 nt2 ntp2 hp2 pr2 => ?_⟩
        have sH4 : Same H H4 := fun b o e => k4 _ _ (k3 _ _ e)
        have hD1 := k4 _ _ hD1
        clear hp1 pr1 hq1 nq1 nt1 ntp1
        refine ⟨v, rfl, by show 2 ≤ sizeLine; decide, fun T nT => ?_⟩
        generalize hh : upd H4 T _ = H5
        have s5 : Same H4 H5 := by rw [← hh]; exact same_upd nT
        have hT : H5 T = some (.tup [.str "11", v]) := by rw [← hh]; exact upd_same
        clear hh
        refine ⟨by show 1 ≤ sizeLine; decide, fun L1 nL1 => ?_⟩
        generalize hh : upd H5 L1 _ = H6
        have s6 : Same H5 H6 := by rw [← hh]; exact same_upd nL1
        have hL1 : H6 L1 = some (.lst [.ref T]) := by rw [← hh]; exact upd_same
        clear hh
        have lt2 : ts2.length = ka.length := prd_len pr2
        refine ⟨p2, L1, _, _, rfl, rfl, s6 _ _ (s5 _ _ hp2), hL1, big_of (by rw [List.length_map, lt2]; show _ + 1 ≤ 1000; omega), fun C nC => ?_⟩
        generalize hh : upd H6 C _ = H7
        have s7 : Same H6 H7 := by rw [← hh]; exact same_upd nC
        have hC : H7 C = some (.lst ((ts2 ++ [T]).map V.ref)) := by rw [← hh, List.map_append]; exact upd_same
        clear hh
        refine ⟨C, ts2 ++ [T], ka ++ [((.inr "11" : Key), v)], rfl, SqL.of hC, prd_app (pr2.mono fun _ _ h => SqT.of (s7 _ _ (s6 _ _ (s5 _ _ h)))) (.cons (show SqT K H7 T [kV (.inr "11" : Key), v] from SqT.of (s7 _ _ (s6 _ _ hT))) .nil), fun D2 nD2 => ?_⟩
        have knd : ((ka ++ [((.inr "11" : Key), v)]).map (·.1)).Nodup := by
          rw [List.map_append]
          exact List.nodup_append.mpr ⟨rw0.nd, List.nodup_cons.mpr ⟨List.not_mem_nil, List.nodup_nil⟩, fun a ha c hc e => hin (by have hc' : c = .inr "11" := List.mem_singleton.mp hc; rw [← hc', ← e]; exact ha)⟩
        rw [mergeK_nd _ [] (by rw [List.nil_append]; exact knd), List.nil_append]
        generalize hh : upd H7 D2 _ = H8
        have s8 : Same H7 H8 := by rw [← hh]; exact same_upd nD2
        have hD2 : H8 D2 = some (.dK (ka ++ [((.inr "11" : Key), v)])) := by rw [← hh]; exact upd_same
        clear hh
        have s57 : Same H4 H7 := s5.trans (s6.trans s7)
        have hD1 := s8 _ _ (s57 _ _ hD1)
        have sH7 : Same H H7 := sH4.trans s57
        have nD2H : H D2 = none := sH7.free nD2
        refine ⟨by show 2 ≤ sizeLine; decide, fun F nF => ?_⟩
        have sH8 : Same H H8 := sH7.trans s8
        generalize hh : upd H8 F _ = H9
        have s9 : Same H8 H9 := by rw [← hh]; exact same_upd nF
        have hF : H9 F = some (.lst [.ref D1, .ref D2]) := by rw [← hh]; exact upd_same
        clear hh
        have sH9 := sH8.trans s9
        refine ⟨F, [D1, D2], rfl, sH9, sH8.free nF, hF, Nat.le_refl 2, fun d' hd' => ?_⟩
        simp only [List.mem_cons, List.not_mem_nil, or_false] at hd'
        rcases hd' with rfl | rfl
        · exact ⟨ka.drop 1, ls.drop 1, s9 _ _ hD1, nD1H, ne_of_none hD1 nF, rowB_same sH9 (prd_drop1 pr), pf.drop1, by rw [List.length_drop]; omega⟩
        · exact ⟨_, ls ++ [(("11" : Str), false)], s9 _ _ hD2, nD2H, ne_of_none hD2 nF, rowB_same sH9 (prd_app pr (.cons ⟨rfl, dv⟩ .nil)), pf.snoc n11 (by decide +kernel) (by show 2 ≤ z; exact z2), by rw [List.length_append]; show _ + 1 ≤ 11; omega⟩
    rintro σ H1 ⟨F, ds, rfl, s1, nF, hF, dl, hds⟩
    have hd1 := s1 _ _ hd
    have dF : d ≠ F := ne_of_none hd nF
    have lka : ka.length = ls.length := rw0.len
    refine ⟨d, .dK ka, hd1, trivial, fun od => ⟨.ref d, rfl, d, od, rfl, .inl ⟨ka, upd_same, ?_⟩⟩⟩
    have kk : ∀ b o, b ≠ d → H b = some o → (upd H1 d (.frz od (.dK ka))) b = some o := fun b o n e => by rw [upd_ne n]; exact s1 _ _ e
    refine for_it walk_keys (fun i σ H' => ∃ (x4 x5 : Option V) (ds' : List Addr), σ = [some (.ref d), some v, some v2, some (.ref F), x4, x5, none] ∧ H' d = some (.frz od (.dK ka)) ∧ H' F = some (.lst (ds'.map V.ref)) ∧ ds'.length ≤ 2 + i ∧ (∀ d' ∈ ds', ∃ (kb : List (Key × V)) (ls' : BL), H' d' = some (.dK kb) ∧ H d' = none ∧ d' ≠ F ∧ Paired (RowB K H' kind) kb ls' ∧ PfxL z (ls'.map (·.1)) ∧ ls'.length ≤ 11) ∧ ∀ b o, b ≠ d → H b = some o → H' b = some o) ⟨_, _, ds, rfl, upd_same, by rw [upd_ne dF.symm]; exact hF, by omega, fun d' hd' => ?_, kk⟩ (fun _ _ _ _ h => by obtain ⟨_, _, _, _, h, _⟩ := h; exact h) ?_ ?_
    · obtain ⟨kb, ls', h1, h2, h3, h4, h5, h6⟩ := hds d' hd'
      exact ⟨kb, ls', by rw [upd_ne (ne_of_none hd h2).symm]; exact h1, h2, h3, rowB_off hd1 (fun _ q => nomatch q) (fun _ _ q => nomatch q) (fun b o n e => by rw [upd_ne n]; exact e) h4, h5, h6⟩
    · rintro i xk σ H2 H3 hi ⟨x4, x5, ds', rfl, hd2, hF2, dl2, hds2, k2⟩ ⟨rfl, k0, v0, hkv, rfl⟩
      obtain ⟨r, hr, ek, dr⟩ := paired_get pr hkv
      have ek' : k0 = .inr r.1 := ek
      subst ek'
      have rm := List.mem_of_getElem? hr
      refine ⟨.ref d, rfl, d, ka, rfl, .inr ⟨od, hd2⟩, fun M nM => ?_⟩
      generalize hh : upd H3 M _ = H4
      have s4 : Same H3 H4 := by rw [← hh]; exact same_upd nM
      have hM : H4 M = some (.dK ka) := by rw [← hh]; exact upd_same
      clear hh
      have d3 : ∀ {u : V} {b : Bool}, Dp K H u (vB kind b) → Dp K H3 u (vB kind b) := fun h => dp_off hd (fun _ q => nomatch q) (fun _ _ q => nomatch q) k2 h
      have pr3 : Paired (RowB K H3 kind) ka ls := rowB_off hd (fun _ q => nomatch q) (fun _ _ q => nomatch q) k2 pr
      have nMH : H M = none := by
        cases e : H M with
        | none => rfl
        | some o =>
          by_cases hMd : M = d
          · rw [hMd, hd2] at nM; cases nM
          · rw [k2 _ _ hMd e] at nM; cases nM
      have MF : M ≠ F := (ne_of_none hF2 nM).symm
      have hv0 : valV ka (.inr r.1) = some v0 := valV_some rw0.nd (List.mem_of_getElem? hkv)
      refine ⟨.ref d, rfl, .str r.1, rfl, d, v0, rfl, .inl ⟨ka, .inr r.1, .inr ⟨od, s4 _ _ hd2⟩, rfl, hv0.symm⟩, v, rfl, vB kind r.2, vB kind false, dp_same s4 (d3 dr), dp_same s4 (d3 dv), vB_sh _ _, vB_sh _ _, _, rfl, ?_⟩
      rw [vB_eqv]
      cases hb : r.2 with
      | false =>
        refine iteT ?_
        refine ⟨v2, rfl, .ref M, rfl, .str r.1, rfl, M, _, rfl, DPut.k (k := .inr r.1) hM (by rw [lka]; exact big_lt (by omega)), ?_⟩
        generalize hh : upd H4 M _ = H5
        have hM5 : H5 M = some (.dK (putK ka (.inr r.1) v2)) := by rw [← hh]; exact upd_same
        have s5 : Same H3 H5 := by
          intro b o e
          rw [← hh, upd_ne (ne_of_none e nM)]
          exact s4 _ _ e
        clear hh
        have hF5 := s5 _ _ hF2
        refine ⟨.ref F, rfl, .inl ⟨rfl, _, SqL.of hF5⟩, .ref M, rfl, F, _, .ref M, rfl, rfl, hF5, by rw [List.length_map]; exact big_lt (by omega), ?_⟩
        have k6 : ∀ b o, b ≠ F → H5 b = some o → (upd H5 F (.lst (ds'.map V.ref ++ [.ref M]))) b = some o := fun b o n e => by rw [upd_ne n]; exact e
        refine ⟨_, _, ds' ++ [M], rfl, by rw [upd_ne dF]; exact s5 _ _ hd2, by rw [upd_same, List.map_append]; rfl, by rw [List.length_append]; show ds'.length + 1 ≤ 2 + (i + 1); omega, fun d' hd' => ?_, fun b o n e => ?_⟩
        · rcases List.mem_append.mp hd' with hd' | hd'
          · obtain ⟨kb, ls', h1, h2, h3, h4, h5, h6⟩ := hds2 d' hd'
            exact ⟨kb, ls', by rw [upd_ne h3]; exact s5 _ _ h1, h2, h3, rowB_off hF5 (fun _ q => nomatch q) (fun _ _ q => nomatch q) k6 (rowB_same s5 h4), h5, h6⟩
          · rw [List.mem_singleton.mp hd']
            refine ⟨_, flipB ls r.1 true, by rw [upd_ne MF]; exact hM5, nMH, MF, rowB_off hF5 (fun _ q => nomatch q) (fun _ _ q => nomatch q) k6 (rowB_same s5 (prd_flip (d3 dv2) pr3 (List.mem_map.mpr ⟨r, rm, rfl⟩))), by rw [flip_keys]; exact pf, by unfold flipB; rw [List.length_map]; omega⟩
        · rw [upd_ne (ne_of_none e nF)]
          exact s5 _ _ (k2 _ _ n e)
      | true =>
        refine iteF ?_
        refine ⟨v, rfl, .ref M, rfl, .str r.1, rfl, M, _, rfl, DPut.k (k := .inr r.1) hM (by rw [lka]; exact big_lt (by omega)), ?_⟩
        generalize hh : upd H4 M _ = H5
        have hM5 : H5 M = some (.dK (putK ka (.inr r.1) v)) := by rw [← hh]; exact upd_same
        have s5 : Same H3 H5 := by
          intro b o e
          rw [← hh, upd_ne (ne_of_none e nM)]
          exact s4 _ _ e
        clear hh
        have hF5 := s5 _ _ hF2
        refine ⟨.ref F, rfl, .inl ⟨rfl, _, SqL.of hF5⟩, .ref M, rfl, F, _, .ref M, rfl, rfl, hF5, by rw [List.length_map]; exact big_lt (by omega), ?_⟩
        have k6 : ∀ b o, b ≠ F → H5 b = some o → (upd H5 F (.lst (ds'.map V.ref ++ [.ref M]))) b = some o := fun b o n e => by rw [upd_ne n]; exact e
        refine ⟨_, _, ds' ++ [M], rfl, by rw [upd_ne dF]; exact s5 _ _ hd2, by rw [upd_same, List.map_append]; rfl, by rw [List.length_append]; show ds'.length + 1 ≤ 2 + (i + 1); omega, fun d' hd' => ?_, fun b o n e => ?_⟩
        · rcases List.mem_append.mp hd' with hd' | hd'
          · obtain ⟨kb, ls', h1, h2, h3, h4, h5, h6⟩ := hds2 d' hd'
            exact ⟨kb, ls', by rw [upd_ne h3]; exact s5 _ _ h1, h2, h3, rowB_off hF5 (fun _ q => nomatch q) (fun _ _ q => nomatch q) k6 (rowB_same s5 h4), h5, h6⟩
          · rw [List.mem_singleton.mp hd']
            refine ⟨_, flipB ls r.1 false, by rw [upd_ne MF]; exact hM5, nMH, MF, rowB_off hF5 (fun _ q => nomatch q) (fun _ _ q => nomatch q) k6 (rowB_same s5 (prd_flip (d3 dv) pr3 (List.mem_map.mpr ⟨r, rm, rfl⟩))), by rw [flip_keys]; exact pf, by unfold flipB; rw [List.length_map]; omega⟩
        · rw [upd_ne (ne_of_none e nF)]
          exact s5 _ _ (k2 _ _ n e)
    rintro σ H2 ⟨x4, x5, ds', rfl, hd2, hF2, dl2, hds2, k2⟩
    refine ⟨hd2, ?_⟩
    have sH3 : Same H (upd H2 d (.dK ka)) := fun b o e => by
      by_cases n : b = d
      · rw [n, upd_same, ← hd, ← n, e]
      · rw [upd_ne n]; exact k2 _ _ n e
    have hF3 : (upd H2 d (.dK ka)) F = some (.lst (ds'.map V.ref)) := by rw [upd_ne dF.symm]; exact hF2
    have hd3 : (upd H2 d (.dK ka)) d = some (.dK ka) := upd_same
    have hds3 : ∀ d' ∈ ds', ∃ (kb : List (Key × V)) (ls' : BL), (upd H2 d (.dK ka)) d' = some (.dK kb) ∧ Paired (RowB K (upd H2 d (.dK ka)) kind) kb ls' ∧ PfxL z (ls'.map (·.1)) ∧ ls'.length ≤ 11 := fun d' hd' => by
      obtain ⟨kb, ls', h1, h2, h3, h4, h5, h6⟩ := hds2 d' hd'
      have n : d' ≠ d := fun e => by rw [e, hd] at h2; cases h2
      exact ⟨kb, ls', by rw [upd_ne n]; exact h1, rowB_off hd2 (fun _ q => nomatch q) (fun _ _ q => nomatch q) (fun b o n e => by rw [upd_ne n]; exact e) h4, h5, h6⟩
    clear hds2 hds hF2 hd2 k2 kk
    revert sH3 hF3 hd3 hds3
    generalize upd H2 d (.dK ka) = H3
    intro sH3 hF3 hd3 hds3
    have pr3 := rowB_same sH3 pr
    have rw3 := rws_paired pr3 pf.nd
    refine ⟨.ref F, rfl, F, rfl, ⟨_, SqL.of hF3⟩, fun D nD => ?_⟩
    refine lc_it (walk_list (K := K) (a := F) (xs := ds'.map V.ref)) (fun i H' => ∃ es : List Addr, H' D = some (.lst (es.map V.ref)) ∧ es.length ≤ i ∧ (∀ d' ∈ es, ∃ (kb : List (Key × V)) (ls' : BL), H3 d' = some (.dK kb) ∧ Paired (RowB K H3 kind) kb ls' ∧ PfxL z (ls'.map (·.1)) ∧ ls'.length ≤ 11 ∧ ¬ ls.Perm ls') ∧ Same H3 H') ⟨[], upd_same, Nat.le_refl _, fun _ h => absurd h List.not_mem_nil, same_upd nD⟩ (fun _ _ _ h => by obtain ⟨_, _, _, _, h⟩ := h; exact SqL.of (h _ _ hF3)) ?_ ?_
    · rintro i v0 _ H4 hi ⟨es, hD, el, hes, s4⟩ ⟨rfl, hv⟩
      rw [List.getElem?_map] at hv
      obtain ⟨d', hd', rfl⟩ := Option.map_eq_some_iff.mp hv
      obtain ⟨kb, ls', h1, h4, h5, h6⟩ := hds3 d' (List.mem_of_getElem? hd')
      have il : i < ds'.length := (List.getElem?_eq_some_iff.mp hd').1
      have r1 := (rws_paired h4 h5.nd).move s4
      have r2 := rw3.move s4
      refine ⟨rfl, .ref d', rfl, .ref d, rfl, d', d, kb, ka, gB ls' ls, rfl, rfl, s4 _ _ h1, s4 _ _ hd3, r1.at r2 h5.nd pf.nd, _, rfl, ?_⟩
      cases hb : (kb.length == ka.length && kb.all (gB ls' ls)) with
      | true => exact iteF ⟨es, hD, by omega, hes, s4⟩
      | false =>
        refine iteT ⟨.ref d', rfl, _, hD, by rw [List.length_map]; exact big_lt (by omega), es ++ [d'], by rw [upd_same, List.map_append]; rfl, by rw [List.length_append]; show es.length + 1 ≤ i + 1; omega, fun d2 hd2 => ?_, fun b o e => by rw [upd_ne (ne_of_none e nD)]; exact s4 _ _ e⟩
        rcases List.mem_append.mp hd2 with hd2 | hd2
        · exact hes d2 hd2
        · rw [List.mem_singleton.mp hd2]
          refine ⟨kb, ls', h1, h4, h5, h6, fun pm => ?_⟩
          have := (r1.all r2 h5.nd pf.nd).mpr pm.symm
          rw [hb] at this
          cases this
    · rintro H4 ⟨es, hD, el, hes, s4⟩
      rw [List.length_map] at el
      refine q D es H4 (sH3.trans s4) (sH3.free nD) hD (by omega) fun d' hd' => ?_
      obtain ⟨kb, ls', h1, h4, h5, h6, h7⟩ := hes d' hd'
      exact ⟨ls', ⟨kb, s4 _ _ h1, rowB_same s4 h4⟩, h5, h6, h7⟩
end

abbrev clsK (CD CC CW : Addr) : Addr → Prop := fun C => ∃ i, i < 3 ∧ C = clB CD CC CW i

structure Inn (K : PySem.W.Frag) (cl : Nat → Addr) (H : Hp) (p c M Kk : Addr) (n z : Nat) (m : List V) (xs : List Str) (ms : List Addr) : Prop where
  pn : Pen H p c n m
  hM : H M = some (.lst (ms.map V.ref))
  hK : H Kk = some (.lst (xs.map V.str))
  Mp : M ≠ p
  Mc : M ≠ c
  Kp : Kk ≠ p
  KM : Kk ≠ M
  mx : ∀ j x, ms[j]? = some x → MapX K cl H j x z []
theorem MapX.off {K : PySem.W.Frag} {cl : Nat → Addr} {H H' : Hp} {kind : Nat} {x d : Addr} {z : Nat} {ls : BL} {xs : List V} (hd : H d = some (.lst xs)) (k : ∀ b o, b ≠ d → H b = some o → H' b = some o) (h : MapX K cl H kind x z ls) : MapX K cl H' kind x z ls := by
  obtain ⟨e, dx, ka, h1, h2, h3⟩ := h
  exact ⟨e, dx, ka, k _ _ (ne_of h1 hd (fun q => nomatch q)) h1, k _ _ (ne_of h2 hd (fun q => nomatch q)) h2, h3.nd, h3.len, fun p hp => by
    obtain ⟨r, hr, e, d1⟩ := h3.row p hp
    exact ⟨r, hr, e, dp_off hd (fun _ q => nomatch q) (fun _ _ q => nomatch q) k d1⟩, h3.key⟩
theorem Inn.same {K : PySem.W.Frag} {cl : Nat → Addr} {H H' : Hp} {p c M Kk : Addr} {n z : Nat} {m : List V} {xs : List Str} {ms : List Addr} (s : Same H H') (h : Inn K cl H p c M Kk n z m xs ms) : Inn K cl H' p c M Kk n z m xs ms := ⟨h.pn.keep s, s _ _ h.hM, s _ _ h.hK, h.Mp, h.Mc, h.Kp, h.KM, fun j x hx => (h.mx j x hx).same s⟩
theorem Inn.draw {K : PySem.W.Frag} {cl : Nat → Addr} {H H' : Hp} {p c M Kk : Addr} {n n' z : Nat} {m : List V} {xs : List Str} {ms : List Addr} (b : But p H H') (pn : Pen H' p c n' m) (h : Inn K cl H p c M Kk n z m xs ms) : Inn K cl H' p c M Kk n' z m xs ms := by
  obtain ⟨_, _, _, q⟩ := h.pn
  exact ⟨pn, b _ _ h.Mp h.hM, b _ _ h.Kp h.hK, h.Mp, h.Mc, h.Kp, h.KM, fun j x hx => (h.mx j x hx).off q.at_ b⟩
theorem prd_rev {α β : Type} {R : α → β → Prop} {as : List α} {bs : List β} (h : Paired R as bs) : Paired R as.reverse bs.reverse := by
  induction h with
  | nil => exact .nil
  | cons h _ ih =>
    rw [List.reverse_cons, List.reverse_cons]
    exact prd_app ih (.cons h .nil)
section
variable {K : PySem.W.Frag} {CD CC CW f : Addr} {H : Hp}
theorem own_of (EQ : ∀ i, i < 3 → ClsX K f CD (clB CD CC CW i)) {kind : Nat} (hk : kind < 3) {x : Addr} {z : Nat} {ls : BL} (h : MapX K (clB CD CC CW) H kind x z ls) : OwnAt K f H x (clB CD CC CW kind) := by
  obtain ⟨e, dx, ka, h1, _⟩ := h
  exact ⟨⟨dx, _, h1⟩, (EQ kind hk).eq⟩
theorem eqX_mm (WS : ∀ i j, i < 3 → j < 3 → i ≠ j → clB CD CC CW i ≠ clB CD CC CW j ∧ PySem.W.subIn K (.ref (clB CD CC CW j)) (.ref (clB CD CC CW i)) = some (decide (i = 0))) {k1 k2 : Nat} (hk1 : k1 < 3) (hk2 : k2 < 3) {x y : Addr} {z z2 : Nat} {ls ls2 : BL} (h1 : MapX K (clB CD CC CW) H k1 x z ls) (h2 : MapX K (clB CD CC CW) H k2 y z2 ls2) (nd : (ls.map (·.1)).Nodup) (nd2 : (ls2.map (·.1)).Nodup) {Q : VK} {E : XK} (q : ∀ b, (b = true ↔ k1 = k2 ∧ z = z2 ∧ ls.Perm ls2) → Q (.bl b) H) : spEqX K (clsK CD CC CW) [.ref x, .ref y] H Q E := by
  obtain ⟨e, dx, ka, a1, a2, r1⟩ := h1
  obtain ⟨e2, dy, kb, b1, b2, r2⟩ := h2
  by_cases hkk : k1 = k2
  · subst hkk
    refine ⟨x, _, dx, e, z, ka, .ref y, rfl, ⟨k1, hk1, rfl⟩, a1, a2, .inl ⟨y, _, dy, e2, z2, kb, gB ls ls2, rfl, ⟨k1, hk2, rfl⟩, b1, b2, fun _ _ => r1.at r2 nd nd2, q _ ?_⟩⟩
    rw [Bool.and_eq_true, decide_eq_true_iff, r1.all r2 nd nd2]
    exact ⟨fun h => ⟨rfl, h.1.2, h.2⟩, fun h => ⟨⟨rfl, h.2.1⟩, h.2.2⟩⟩
  · have ne := (WS k1 k2 hk1 hk2 hkk).1
    refine ⟨x, _, dx, e, z, ka, .ref y, rfl, ⟨k1, hk1, rfl⟩, a1, a2, .inl ⟨y, _, dy, e2, z2, kb, gB ls ls2, rfl, ⟨k2, hk2, rfl⟩, b1, b2, fun h => absurd h ne, q _ ?_⟩⟩
    rw [Bool.and_eq_true, decide_eq_true_iff]
    exact ⟨fun h => absurd h.1.1 ne, fun h => absurd h.1 hkk⟩
theorem eqX_mo {k1 : Nat} (hk1 : k1 < 3) {x : Addr} {z : Nat} {ls : BL} (h1 : MapX K (clB CD CC CW) H k1 x z ls) {v : V} {T : String} (o : Oth H v T) {Q : VK} {E : XK} (q : Q (.bl false) H) : spEqX K (clsK CD CC CW) [.ref x, v] H Q E := by
  obtain ⟨e, dx, ka, a1, a2, r1⟩ := h1
  exact ⟨x, _, dx, e, z, ka, v, rfl, ⟨k1, hk1, rfl⟩, a1, a2, .inr ⟨T, o, q⟩⟩
end
/-- what first is not equal to -/
def Oder (K : PySem.W.Frag) (cl : Nat → Addr) (H : Hp) (kind z : Nat) (ls : BL) (v : V) : Prop := (∃ (o : Addr) (z' : Nat) (ls' : BL), v = .ref o ∧ MapX K cl H kind o z' ls' ∧ (ls'.map (·.1)).Nodup ∧ ¬ (z = z' ∧ ls.Perm ls')) ∨ ∃ T, Oth H v T
theorem Oth.same {H H' : Hp} (s : Same H H') {v : V} {T : String} (h : Oth H v T) : Oth H' v T := by
  cases h with
  | non => exact .non
  | int i => exact .int i
  | str x => exact .str x
  | lst h => exact .lst (s _ _ h)
  | dic h => exact .dic (h.imp (s _ _) fun ⟨o, h⟩ => ⟨o, s _ _ h⟩)
theorem Oder.same {K : PySem.W.Frag} {cl : Nat → Addr} {H H' : Hp} (s : Same H H') {kind z : Nat} {ls : BL} {v : V} (h : Oder K cl H kind z ls v) : Oder K cl H' kind z ls v := by
  rcases h with ⟨o, z', ls', e, h1, h2, h3⟩ | ⟨T, h⟩
  · exact .inl ⟨o, z', ls', e, h1.same s, h2, h3⟩
  · exact .inr ⟨T, h.same s⟩
theorem Oth.put {H : Hp} {C : Addr} {xs ys : List V} (hC : H C = some (.lst xs)) {v : V} {T : String} (h : Oth H v T) : Oth (upd H C (.lst ys)) v T := by
  cases h with
  | non => exact .non
  | int i => exact .int i
  | str x => exact .str x
  | @lst a zs h =>
    by_cases e : a = C
    · rw [e]; exact .lst upd_same
    · exact .lst (by rw [upd_ne e]; exact h)
  | @dic a kvs h =>
    refine .dic (h.imp (fun h => by rw [upd_ne (ne_of h hC (fun q => nomatch q))]; exact h) fun ⟨o, h⟩ => ⟨o, by rw [upd_ne (ne_of h hC (fun q => nomatch q))]; exact h⟩)
theorem Oder.put {K : PySem.W.Frag} {cl : Nat → Addr} {H : Hp} {C : Addr} {xs ys : List V} (hC : H C = some (.lst xs)) {kind z : Nat} {ls : BL} {v : V} (h : Oder K cl H kind z ls v) : Oder K cl (upd H C (.lst ys)) kind z ls v := by
  rcases h with ⟨o, z', ls', e, h1, h2, h3⟩ | ⟨T, h⟩
  · exact .inl ⟨o, z', ls', e, h1.off hC (fun b o n e => by rw [upd_ne n]; exact e), h2, h3⟩
  · exact .inr ⟨T, h.put hC⟩
theorem dpA_bl {K : PySem.W.Frag} {H : Hp} : ∀ l : List Bool, DpAll K H (l.map V.bl) (l.map PyData.bool)
  | [] => .nil
  | b :: l => .cons (.bl b) (dpA_bl l)
theorem list_bl {kk : Nat} (h : kk < 3) : SeqAt.shaped (.list (((List.range 3).map fun j => decide (j = kk)).map PyData.bool)) = true ∧ (!PyData.eqv (.list (((List.range 3).map fun j => decide (j = kk)).map PyData.bool)) (.list (((List.range 3).map fun j => decide (j = kk)).map PyData.bool))) = false := by
  obtain rfl | rfl | rfl : kk = 0 ∨ kk = 1 ∨ kk = 2 := by omega
  · exact ⟨by decide +kernel, by decide +kernel⟩
  · exact ⟨by decide +kernel, by decide +kernel⟩
  · exact ⟨by decide +kernel, by decide +kernel⟩
def RowT (K : PySem.W.Frag) (H : Hp) (kind : Nat) (t : Addr) (r : Str × Bool) : Prop := ∃ u, H t = some (.tup [.str r.1, u]) ∧ Dp K H u (vB kind r.2)
theorem rowT_same {K : PySem.W.Frag} {H H' : Hp} {kind : Nat} (s : Same H H') {ts : List Addr} {ls : BL} (h : Paired (RowT K H kind) ts ls) : Paired (RowT K H' kind) ts ls := h.mono fun _ _ ⟨u, e, dp⟩ => ⟨u, s _ _ e, dp_same s dp⟩
theorem rowT_off {K : PySem.W.Frag} {H H' : Hp} {d : Addr} {xs : List V} {kind : Nat} (hd : H d = some (.lst xs)) (k : ∀ b o, b ≠ d → H b = some o → H' b = some o) {ts : List Addr} {ls : BL} (h : Paired (RowT K H kind) ts ls) : Paired (RowT K H' kind) ts ls := h.mono fun _ _ ⟨u, e, dp⟩ => ⟨u, k _ _ (ne_of e hd (fun q => nomatch q)) e, dp_off hd (fun _ q => nomatch q) (fun _ _ q => nomatch q) k dp⟩
theorem rowT_kvs {K : PySem.W.Frag} {H : Hp} {kind : Nat} {ts : List Addr} {ls : BL} (h : Paired (RowT K H kind) ts ls) : ∃ kvs : List (Key × V), Paired (fun p (kv : Key × V) => SqT K H p [kV kv.1, kv.2]) ts kvs ∧ Paired (RowB K H kind) kvs ls := by
  induction h with
  | nil => exact ⟨[], .nil, .nil⟩
  | cons q _ ih =>
    obtain ⟨u, e, dp⟩ := q
    obtain ⟨kvs, h1, h2⟩ := ih
    exact ⟨(.inr _, u) :: kvs, .cons (SqT.of e) h1, .cons ⟨rfl, dp⟩ h2⟩
def spLaw (K : PySem.W.Frag) : Sp := fun vs H Q _ => ∃ (a : Addr) (ns : List Int), vs = [.ref a] ∧ SqL K H a (ns.map V.int) ∧ ns.length ≤ 63 ∧ ∀ H', Q (.bl true) H'
abbrev sL : Stmt := top 28
section
variable {P : Program} {w : World} {K : PySem.W.Frag} {mg : Str → Option Value} {base : Heap}
abbrev NL : List Str := ["script", "pen", "turn", "size", "keys", "maps", "kind", "value", "other", "lines", "prefix", "first", "turned", "again", "others", "some", "thing", "k", "j"]
theorem scL : FnScope NL ["script"] (defScope sL) := ⟨rfl, rfl, rfl, by decide +kernel, rfl, by decide +kernel, by decide +kernel⟩
set_option maxHeartbeats 8000000 in
theorem ok_L {f fP fDr fX fMm fEq fOt CD : Addr} {fd fdP fdDr fdX fdMm fdEq fdOt : FuncData} {k : Nat} (F : Fun K "law" "law" sL f fd) (EQ : ∀ i, i < 3 → ClsX K fEq CD (clB CD CC CW i)) (WS : ∀ i j, i < 3 → j < 3 → i ≠ j → clB CD CC CW i ≠ clB CD CC CW j ∧ PySem.W.subIn K (.ref (clB CD CC CW j)) (.ref (clB CD CC CW i)) = some (decide (i = 0)))
    (GP : FnOk P w K mg base CX0 k fP fdP ["script"] (spPen K))
    (FP : Fun K "_law_pen" "_law_pen" sP fP fdP) (bP : Binds K fdP ["script"] []) (gP : mg "_law_pen" = some (.ref fP))
    (m_range : mg "range" = none)
    (GDr : FnOk P w K mg base CX0 k fDr fdDr ["pen", "below"] spDraw)
    (FDr : Fun K "_law_draw" "_law_draw" sDr fDr fdDr) (bDr : Binds K fdDr ["pen", "below"] []) (gDr : mg "_law_draw" = some (.ref fDr))
    (GX : FnOk P w K mg base CX0 k fX fdX ["pen", "size", "most"] spPrefixes)
    (FX : Fun K "_law_prefixes" "_law_prefixes" sX fX fdX) (bX : Binds K fdX ["pen", "size", "most"] []) (gX : mg "_law_prefixes" = some (.ref fX))
    (m_dict : mg "dict" = none)
    (GMm : FnOk P w K mg base CX0 k fMm fdMm ["kind", "size", "lines"] ((spMk K (clB CD CC CW))))
    (FMm : Fun K "_law_made" "_law_made" sMm fMm fdMm) (bMm : Binds K fdMm ["kind", "size", "lines"] []) (gMm : mg "_law_made" = some (.ref fMm))
    (m_list : mg "list" = none)
    (GEq : FnOk P w K mg base CX0 k fEq fdEq ["self", "other"] ((spEqX K (clsK CD CC CW))))
    (OCD : ObjC K CD) (aEq : PySem.W.findIn K (.ref CD) "__eq__" = some (some (.ref fEq))) (iEq : PySem.W.isFn K (.ref fEq) = true) (bEq : Binds K fdEq ["self", "other"] [])
    (GOt : FnOk P w K mg base CX0 k fOt fdOt ["lines", "value", "other_value"] ((spOt K)))
    (FOt : Fun K "_law_others" "_law_others" sOt fOt fdOt) (bOt : Binds K fdOt ["lines", "value", "other_value"] []) (gOt : mg "_law_others" = some (.ref fOt))
    : FnG P w K mg base (k + 2) f fd ["script"] (spLaw K) := by
  refine okG F scL (fun vs H Q E h => ?_) (fun cdv A outer s H vs Q g hr h => ?_)
  · obtain ⟨a0, ns, rfl, _⟩ := h
    rfl
  · obtain ⟨a0, ns, rfl, hS, hlen, q⟩ := h
    have nd := scL.nd
    have hu := hr.units
    have hu1 := hu_of hr
    have hr1 := hr.mono (Nat.le_succ k)
    refine ⟨_, pss_cons (ps_set (i := 1) nd rfl (.inr rfl) (pe_call GP hr1 (by rfl) gP FP.kp bP .nil pass0 (pa_cons (pv 0) pa_nil)))
      (pss_cons (ps_for PassesOwn.never rfl (pi_range1 (by rfl) m_range (pa_cons pe_int pa_nil)) (pg_name (i := 2) nd rfl (.inl rfl))
        (pss_cons (ps_set (i := 3) nd rfl (.inr rfl) (pe_op op_add pe_int (pe_call GDr hr1 (by rfl) gDr FDr.kp bDr .nil pass0 (pa_cons (pv 1) (pa_cons pe_int pa_nil)))))
        (pss_cons (ps_set (i := 4) nd rfl (.inl rfl) (pe_call GX hr1 (by rfl) gX FX.kp bX .nil pass0 (pa_cons (pv 1) (pa_cons (pv 3) (pa_cons pe_int pa_nil)))))
        (pss_cons (ps_set (i := 5) nd rfl (.inr rfl) (pe_lst pa_nil))
        (pss_cons (ps_for PassesOwn.never rfl (pi_range1 (by rfl) m_range (pa_cons pe_int pa_nil)) (pg_name (i := 6) nd rfl (.inr rfl))
          (C8.pss_cut (ps_asg (pe_ix ix_list (pe_lst (pa_cons (pe_tup (pa_cons pe_int (pa_cons pe_int pa_nil))) (pa_cons (pe_tup (pa_cons pe_str (pa_cons pe_str pa_nil))) (pa_cons (pe_tup (pa_cons (pe_tup (pa_cons pe_str pa_nil)) (pa_cons (pe_tup (pa_cons pe_str (pa_cons pe_str pa_nil))) pa_nil))) pa_nil)))) (pv 6) (fun _ _ => rfl)) (pg_tup rfl (pgs_cons (pg_name (i := 7) nd rfl (.inr rfl)) (pgs_cons (pg_name (i := 8) nd rfl (.inr rfl)) pgs_nil))))
          (C8.pss_cut (ps_set (i := 9) nd rfl (.inl rfl) (pe_callTy (call_dictPn rfl) (by rfl) m_dict (by decide +kernel) (pa_cons (pe_lc (own := [("prefix", 10)]) (g := gName 10) (tt := tYes) rfl nd (pi_list (pv 4)) (blkOk_by (N := NL) (sc := defScope sL) (by decide +kernel)) (fun _ _ _ _ _ => pg_name (i := 10) nd rfl (.inl rfl)) (fun _ _ _ _ _ => pts_nil) (fun _ _ _ _ _ => (pe_tup (pa_cons (pv 10) (pa_cons (pe_ix (r := rIxL K) ix_list (pe_lst (pa_cons (pv 7) (pa_cons (pv 8) pa_nil))) (pe_call GDr hr1 (by rfl) gDr FDr.kp bDr .nil pass0 (pa_cons (pv 1) (pa_cons pe_int pa_nil))) (fun _ _ => rfl)) pa_nil))))) pa_nil)))
          (pss_cons (ps_set (i := 11) nd rfl (.inl rfl) (pe_call GMm hr1 (by rfl) gMm FMm.kp bMm .nil pass0 (pa_cons (pv 6) (pa_cons (pv 3) (pa_cons (pv 9) pa_nil)))))
          (pss_cons (ps_set (i := 12) nd rfl (.inl rfl) (pe_callTy (call_dictPn rfl) (by rfl) m_dict (by decide +kernel) (pa_cons (pe_rev (LiI.pe_listItems rfl (pv 9) (by rfl) m_list (by decide +kernel)) (po_some (pe_un un_neg pe_int))) pa_nil)))
          (pss_cons (ps_set (i := 13) nd rfl (.inl rfl) (pe_call GMm hr1 (by rfl) gMm FMm.kp bMm .nil pass0 (pa_cons (pv 6) (pa_cons (pv 3) (pa_cons (pv 12) pa_nil)))))
          (C8.pss_cut (ps_if (PW.pt (pw_or (pt_cmpR op_notBl (pe_cmpR (op_eqX GEq hr1 iEq bEq) (pv 11) (pv 13) (nomark _)) pe_bl (nomark _)) (pw_or1 (pt_cmpR op_notBl (pe_cmpR (op_neX GEq hr iEq bEq) (pv 11) (pv 13) (nomark _)) pe_bl (nomark _)))))
            (pss_one (ps_ret pe_bl)) pss_nil)
          (pss_cons (ps_setLc (i := 14) (own := [("some", 15)]) (g := gName 15) (tt := tYes) rfl nd rfl rfl (sw_true rfl rfl rfl (by decide +kernel)) (pi_list (pe_call GOt hr1 (by rfl) gOt FOt.kp bOt .nil pass0 (pa_cons (pv 9) (pa_cons (pv 7) (pa_cons (pv 8) pa_nil))))) (blkOk_by (N := NL) (sc := defScope sL) (by decide +kernel)) (fun _ _ _ _ _ => pg_name (i := 15) nd rfl (.inl rfl)) (fun _ _ _ _ _ => pts_nil) (fun _ _ _ _ _ => (pe_call GMm hr1 (by rfl) gMm FMm.kp bMm .nil pass0 (pa_cons (pv 6) (pa_cons (pv 3) (pa_cons (pv 15) pa_nil))))))
          (pss_cons (ps_set (i := 14) nd rfl (.inl rfl) (pe_op op_cat (pv 14) (pe_lst (pa_cons (pv 9) (pa_cons pe_non (pa_cons pe_str (pa_cons pe_int (pa_cons (pe_lst (pa_cons (pv 11) pa_nil)) pa_nil))))))))
          (C8.pss_cut (ps_if (pt_cmpR op_lt (pv 3) pe_int (nomark _))
            (pss_one (ps_expr (pe_bm PySem.F.plainAttrs_list PySem.F.slot_list_append PySem.F.type_list_append mt_append (pv 14) (pa_cons (pe_call GMm hr1 (by rfl) gMm FMm.kp bMm .nil pass0 (pa_cons (pv 6) (pa_cons (pe_op op_add (pv 3) pe_int) (pa_cons (pv 9) pa_nil)))) pa_nil)))) pss_nil)
          (pss_cons (ps_for PassesOwn.never rfl (pi_list (pv 14)) (pg_name (i := 16) nd rfl (.inl rfl))
            (pss_cons (ps_if (PW.pt (pw_or (pt_cmpR op_notBl (pe_cmpR (op_eqX GEq hr1 iEq bEq) (pv 11) (pv 16) (nomark _)) pe_bl (nomark _)) (pw_or1 (pt_cmpR op_notBl (pe_cmpR (op_eqX GEq hr1 iEq bEq) (pv 16) (pv 11) (nomark _)) pe_bl (nomark _)))))
              (pss_one (ps_ret pe_bl)) pss_nil)
            (pss_one (ps_if (pt_cmpR op_notBl (pe_cmpR (op_neX GEq hr iEq bEq) (pv 11) (pv 16) (nomark _)) pe_bl (nomark _))
              (pss_one (ps_ret pe_bl)) pss_nil))))
          (pss_one (ps_expr (pe_bm PySem.F.plainAttrs_list PySem.F.slot_list_append PySem.F.type_list_append mt_append (pv 5) (pa_cons (pe_call GMm hr1 (by rfl) gMm FMm.kp bMm .nil pass0 (pa_cons (pv 6) (pa_cons (pv 3) (pa_cons pe_dnewK pa_nil)))) pa_nil)))))))))))))))
        (pss_one (ps_for PassesOwn.never rfl (pi_range1 (by rfl) m_range (pa_cons pe_int pa_nil)) (pg_name (i := 17) nd rfl (.inr rfl))
          (pss_one (ps_if (pt_cmpR (op_neD hu) (pe_lc (own := [("other", 8)]) (g := gName 8) (tt := tYes) rfl nd (pi_list (pv 5)) (blkOk_by (N := NL) (sc := defScope sL) (by decide +kernel)) (fun _ _ _ _ _ => pg_name (i := 8) nd rfl (.inl rfl)) (fun _ _ _ _ _ => pts_nil) (fun _ _ _ _ _ => (pe_cmpR (show OpR _ (compareOp .Eq) (rEqX K fEq ((spEqX K (clsK CD CC CW)))) from (op_eqX GEq hr1 iEq bEq)) (pe_ix (r := rIxL K) ix_list (pv 5) (pv 17) (fun _ _ => rfl)) (pv 8) (nomark _)))) (pe_lc (own := [("j", 18)]) (g := gName 18) (tt := tYes) rfl nd (pi_range1 (by rfl) m_range (pa_cons pe_int pa_nil)) (blkOk_by (N := NL) (sc := defScope sL) (by decide +kernel)) (fun _ _ _ _ _ => pg_name (i := 18) nd rfl (.inl rfl)) (fun _ _ _ _ _ => pts_nil) (fun _ _ _ _ _ => (pe_cmpR op_eq (pv 18) (pv 17) (nomark _)))) (nomark _))
            (pss_one (ps_ret pe_bl)) pss_nil)))))))))
      (pss_one (ps_ret pe_bl))), ?_⟩
    refine ⟨.ref a0, rfl, a0, ns, rfl, hS, hlen, fun H0 p c sm0 np nc hp => ?_⟩
    refine ⟨4, rfl, by decide, by decide, for_range (n := 4) (fun i σ H' => (∃ x2 x3 x4 x5 x6 x7 x8 x9 x10 x11 x12 x13 x14 x15 x16 x17 x18, σ = [some (.ref a0), some (.ref p), x2, x3, x4, x5, x6, x7, x8, x9, x10, x11, x12, x13, x14, x15, x16, x17, x18]) ∧ ∃ m, Pen H' p c (500 * i) m) ⟨⟨_, _, _, _, _, _, _, _, _, _, _, _, _, _, _, _, _, rfl⟩, [], hp⟩ ?_ ?_⟩
    rotate_left
    · rintro σ H1 ⟨⟨x2, x3, x4, x5, x6, x7, x8, x9, x10, x11, x12, x13, x14, x15, x16, x17, x18, rfl⟩, m, hp1⟩
      exact q _
    rintro t σ H1 ht ⟨⟨x2, x3, x4, x5, x6, x7, x8, x9, x10, x11, x12, x13, x14, x15, x16, x17, x18, rfl⟩, m, hp1⟩
    refine ⟨.ref p, rfl, p, c, _, m, 30, rfl, hp1, by show 500 * t ≤ 1000000000000; omega, by decide, by decide, fun dz H2 d0 dl b2 p2 => ⟨2, dz, rfl, rfl, ?_⟩⟩
    obtain ⟨z, ez, z2, z32⟩ : ∃ z : Nat, (2 + dz : Int) = (z : Int) ∧ 2 ≤ z ∧ z ≤ 31 := ⟨(2 + dz).toNat, by omega, by omega, by omega⟩
    rw [show (fun i j : Int => V.int (i + j)) 2 dz = V.int (z : Int) from congrArg V.int ez]
    refine ⟨.ref p, rfl, .int z, rfl, p, c, _, z, 5, m, rfl, p2, by show 500 * t + 1 + 1000 ≤ 1000000000000; omega, by omega, by decide, fun Kk xs H3 b3 p3 nK hK pf xl => ?_⟩
    refine ⟨by show 0 ≤ sizeLine; decide, fun M nM => ?_⟩
    have sM := same_upd (o := .lst []) nM
    have in0 : Inn K (clB CD CC CW) (upd H3 M (.lst [])) p c M Kk (500 * t + 1 + 1 + 8 * 5 + 20 * 0) z m xs [] := ⟨p3.keep sM, upd_same, sM _ _ hK, p3.ne_p nM, p3.ne_c nM, p2.ne_p nK, ne_of_none hK nM, fun j x hx => by cases hx⟩
    revert in0
    generalize upd H3 M (.lst []) = H4
    intro in0
    clear sM nM hK nK p3 b3 p2 b2 hp1
    refine ⟨3, rfl, by decide, by decide, for_range (n := 3) (fun i σ H' => (∃ x6 x7 x8 x9 x10 x11 x12 x13 x14 x15 x16 x17 x18, σ = [some (.ref a0), some (.ref p), some (.int (0 + t)), some (.int z), some (.ref Kk), some (.ref M), x6, x7, x8, x9, x10, x11, x12, x13, x14, x15, x16, x17, x18]) ∧ ∃ ms : List Addr, ms.length = i ∧ Inn K (clB CD CC CW) H' p c M Kk (500 * t + 1 + 1 + 8 * 5 + 20 * i) z m xs ms) ⟨⟨_, _, _, _, _, _, _, _, _, _, _, _, _, rfl⟩, [], rfl, in0⟩ ?_ ?_⟩
    · rintro kind σ H5 hk ⟨⟨x6, x7, x8, x9, x10, x11, x12, x13, x14, x15, x16, x17, x18, rfl⟩, ms, ml, inn⟩
      refine ⟨fun σ H' => ∃ (v v2 : V), σ = [some (.ref a0), some (.ref p), some (.int (0 + t)), some (.int z), some (.ref Kk), some (.ref M), some (.int (0 + kind)), some v, some v2, x9, x10, x11, x12, x13, x14, x15, x16, x17, x18] ∧ Inn K (clB CD CC CW) H' p c M Kk (500 * t + 1 + 1 + 8 * 5 + 20 * kind) z m xs ms ∧ Dp K H' v (vB kind false) ∧ Dp K H' v2 (vB kind true), ?_, ?_⟩
      · refine ⟨by show 2 ≤ sizeLine; decide, fun T1 n1 => ?_⟩
        generalize hh : upd H5 T1 _ = G1
        have s1 : Same H5 G1 := by rw [← hh]; exact same_upd n1
        have h1 : G1 T1 = some (.tup [.int 1, .int 2]) := by rw [← hh]; exact upd_same
        clear hh
        refine ⟨by show 2 ≤ sizeLine; decide, fun T2 n2 => ?_⟩
        generalize hh : upd G1 T2 _ = G2
        have s2 : Same G1 G2 := by rw [← hh]; exact same_upd n2
        have h2 : G2 T2 = some (.tup [.str "a", .str "b"]) := by rw [← hh]; exact upd_same
        clear hh
        refine ⟨by show 1 ≤ sizeLine; decide, fun T3 n3 => ?_⟩
        generalize hh : upd G2 T3 _ = G3
        have s3 : Same G2 G3 := by rw [← hh]; exact same_upd n3
        have h3 : G3 T3 = some (.tup [.str "a"]) := by rw [← hh]; exact upd_same
        clear hh
        refine ⟨by show 2 ≤ sizeLine; decide, fun T4 n4 => ?_⟩
        generalize hh : upd G3 T4 _ = G4
        have s4 : Same G3 G4 := by rw [← hh]; exact same_upd n4
        have h4 : G4 T4 = some (.tup [.str "a", .str "b"]) := by rw [← hh]; exact upd_same
        clear hh
        refine ⟨by show 2 ≤ sizeLine; decide, fun T5 n5 => ?_⟩
        generalize hh : upd G4 T5 _ = G5
        have s5 : Same G4 G5 := by rw [← hh]; exact same_upd n5
        have h5 : G5 T5 = some (.tup [.ref T3, .ref T4]) := by rw [← hh]; exact upd_same
        clear hh
        refine ⟨by show 3 ≤ sizeLine; decide, fun L1 n6 => ?_⟩
        generalize hh : upd G5 L1 _ = G6
        have s6 : Same G5 G6 := by rw [← hh]; exact same_upd n6
        have h6 : G6 L1 = some (.lst [.ref T1, .ref T2, .ref T5]) := by rw [← hh]; exact upd_same
        clear hh
        have s56 := s5.trans s6
        have s46 := s4.trans s56
        have s36 := s3.trans s46
        have s26 := s2.trans s36
        have inn := inn.same (s1.trans s26)
        obtain rfl | rfl | rfl : kind = 0 ∨ kind = 1 ∨ kind = 2 := by omega
        · exact ⟨.int (0 + ((0 : Nat) : Int)), rfl, L1, _, 0, .ref T1, rfl, rfl, SqL.of h6, atI_nat (j := 0) rfl, T1, _, rfl, SqT.of (s26 _ _ h1), rfl, _, _, rfl, _, _, rfl, rfl, ⟨_, _, rfl, inn, .int 1, .int 2⟩⟩
        · exact ⟨.int (0 + ((1 : Nat) : Int)), rfl, L1, _, 1, .ref T2, rfl, rfl, SqL.of h6, atI_nat (j := 1) rfl, T2, _, rfl, SqT.of (s36 _ _ h2), rfl, _, _, rfl, _, _, rfl, rfl, ⟨_, _, rfl, inn, .str "a", .str "b"⟩⟩
        · exact ⟨.int (0 + ((2 : Nat) : Int)), rfl, L1, _, 2, .ref T5, rfl, rfl, SqL.of h6, atI_nat (j := 2) rfl, T5, _, rfl, SqT.of (s6 _ _ h5), rfl, _, _, rfl, _, _, rfl, rfl, ⟨_, _, rfl, inn, .tup (SqT.of (s46 _ _ h3)) (.cons (.str "a") .nil), .tup (SqT.of (s56 _ _ h4)) (.cons (.str "a") (.cons (.str "b") .nil))⟩⟩
      rintro σ H6 ⟨v, v2, rfl, inn, dv, dv2⟩
      refine ⟨fun σ H' => ∃ (d : Addr) (ls : BL), σ = [some (.ref a0), some (.ref p), some (.int (0 + t)), some (.int z), some (.ref Kk), some (.ref M), some (.int (0 + kind)), some v, some v2, some (.ref d), x10, x11, x12, x13, x14, x15, x16, x17, x18] ∧ Inn K (clB CD CC CW) H' p c M Kk (500 * t + 1 + 1 + 8 * 5 + 20 * kind + 5) z m xs ms ∧ Dp K H' v (vB kind false) ∧ Dp K H' v2 (vB kind true) ∧ LinesAt K H' kind d ls ∧ ls.map (·.1) = xs, ?_, ?_⟩
      · refine ⟨.ref Kk, rfl, Kk, rfl, ⟨_, SqL.of inn.hK⟩, fun D nD => ?_⟩
        have Dp0 : D ≠ p := inn.pn.ne_p nD
        have Dc0 : D ≠ c := inn.pn.ne_c nD
        refine lc_it (walk_list (K := K) (a := Kk) (xs := xs.map V.str)) (fun i H' => ∃ (ts : List Addr) (ls : BL), H' D = some (.lst (ts.map V.ref)) ∧ ts.length = i ∧ Paired (RowT K H' kind) ts ls ∧ ls.map (·.1) = xs.take i ∧ Inn K (clB CD CC CW) H' p c M Kk (500 * t + 1 + 1 + 8 * 5 + 20 * kind + i) z m xs ms ∧ Dp K H' v (vB kind false) ∧ Dp K H' v2 (vB kind true)) ⟨[], [], upd_same, rfl, .nil, rfl, inn.same (same_upd nD), dp_same (same_upd nD) dv, dp_same (same_upd nD) dv2⟩ (fun _ _ _ h => by obtain ⟨_, _, _, _, _, _, h, _⟩ := h; exact SqL.of h.hK) ?_ ?_
        · rintro i v0 _ G1 hi ⟨ts, ls, hD, tl, pr, lk, inn1, dv1, dv12⟩ ⟨rfl, hv⟩
          rw [List.getElem?_map] at hv
          obtain ⟨u, hu, rfl⟩ := Option.map_eq_some_iff.mp hv
          have il : i < xs.length := (List.getElem?_eq_some_iff.mp hu).1
          refine ⟨rfl, .str u, rfl, v, rfl, v2, rfl, by show 2 ≤ sizeLine; decide, fun L1 nL1 => ?_⟩
          generalize hh : upd G1 L1 _ = G2
          have s2 : Same G1 G2 := by rw [← hh]; exact same_upd nL1
          have hL1 : G2 L1 = some (.lst [v, v2]) := by rw [← hh]; exact upd_same
          clear hh
          have L1p : L1 ≠ p := inn1.pn.ne_p nL1
          have inn2 := inn1.same s2
          have hD2 := s2 _ _ hD
          have pr2 := rowT_same s2 pr
          have e1 := dp_same s2 dv1
          have e2 := dp_same s2 dv12
          refine ⟨.ref p, rfl, p, c, _, m, 2, rfl, inn2.pn, by show 500 * t + 1 + 1 + 8 * 5 + 20 * kind + i ≤ 1000000000000; omega, by decide, by decide, fun dg G3 d0 d1 b3 p3 => ?_⟩
          obtain ⟨_, _, _, pq⟩ := id inn2.pn
          have inn3 := inn2.draw b3 p3
          have hD3 := b3 _ _ Dp0 hD2
          have hL3 := b3 _ _ L1p hL1
          have pr3 := rowT_off pq.at_ b3 pr2
          have f1 := dp_off pq.at_ (fun _ q => nomatch q) (fun _ _ q => nomatch q) b3 e1
          have f2 := dp_off pq.at_ (fun _ q => nomatch q) (fun _ _ q => nomatch q) b3 e2
          obtain ⟨w0, b0, hw0, dw0⟩ : ∃ (w0 : V) (b0 : Bool), atI [v, v2] dg = some w0 ∧ Dp K G3 w0 (vB kind b0) := by
            obtain rfl | rfl : dg = 0 ∨ dg = 1 := by omega
            · exact ⟨v, false, atI_nat (j := 0) rfl, f1⟩
            · exact ⟨v2, true, atI_nat (j := 1) rfl, f2⟩
          refine ⟨L1, _, dg, w0, rfl, rfl, SqL.of hL3, hw0, by show 2 ≤ sizeLine; decide, fun T nT => ?_⟩
          generalize hh : upd G3 T _ = G4
          have s4 : Same G3 G4 := by rw [← hh]; exact same_upd nT
          have hT : G4 T = some (.tup [.str u, w0]) := by rw [← hh]; exact upd_same
          clear hh
          have hD4 := s4 _ _ hD3
          refine ⟨_, hD4, by rw [List.length_map]; exact big_lt (by omega), ?_⟩
          have k5 : ∀ b o, b ≠ D → G4 b = some o → (upd G4 D (.lst (ts.map V.ref ++ [.ref T]))) b = some o := fun b o n e => by rw [upd_ne n]; exact e
          have inn4 := inn3.same s4
          have DK : Kk ≠ D := ne_of_none inn.hK nD
          have DM : M ≠ D := ne_of_none inn.hM nD
          refine ⟨ts ++ [T], ls ++ [(u, b0)], by rw [upd_same, List.map_append]; rfl, by rw [List.length_append, tl]; rfl, prd_app (rowT_off hD4 k5 (rowT_same s4 pr3)) (.cons ⟨w0, by rw [upd_ne (ne_of hT hD4 (fun q => nomatch q))]; exact hT, dp_off hD4 (fun _ q => nomatch q) (fun _ _ q => nomatch q) k5 (dp_same s4 dw0)⟩ .nil), by rw [List.map_append, lk, List.take_add_one, hu]; rfl, ⟨inn4.pn.off Dp0 Dc0, k5 _ _ DM inn4.hM, k5 _ _ DK inn4.hK, inn4.Mp, inn4.Mc, inn4.Kp, inn4.KM, fun j x hx => (inn4.mx j x hx).off hD4 k5⟩, dp_off hD4 (fun _ q => nomatch q) (fun _ _ q => nomatch q) k5 (dp_same s4 f1), dp_off hD4 (fun _ q => nomatch q) (fun _ _ q => nomatch q) k5 (dp_same s4 f2)⟩
        · rintro G1 ⟨ts, ls, hD, tl, pr, lk, inn1, dv1, dv12⟩
          rw [List.length_map] at tl lk inn1
          rw [List.take_length] at lk
          obtain ⟨kvs, pk, pb⟩ := rowT_kvs pr
          refine ⟨D, ts, kvs, rfl, SqL.of hD, pk, fun E nE => ?_⟩
          rw [mergeK_nd _ [] (by rw [List.nil_append, (rws_of pb).1, lk]; exact pf.nd.map Sum.inr fun _ _ n e => n (Sum.inr.inj e)), List.nil_append]
          have sE := same_upd (o := .dK kvs) nE
          have inn2 := inn1.same sE
          exact ⟨E, ls, rfl, ⟨inn2.pn.mono (by omega), inn2.hM, inn2.hK, inn2.Mp, inn2.Mc, inn2.Kp, inn2.KM, inn2.mx⟩, dp_same sE dv1, dp_same sE dv12, ⟨kvs, upd_same, rowB_same sE pb⟩, lk⟩
      rintro σ H7 ⟨d, ls, rfl, inn, dv, dv2, lin, lk⟩
      have zk : (0 + (kind : Int)) = (kind : Int) := Int.zero_add _
      have nd : (ls.map (·.1)).Nodup := by rw [lk]; exact pf.nd
      have pfl : PfxL z (ls.map (·.1)) := by rw [lk]; exact pf
      have lx : ls.length ≤ 5 := by have := congrArg List.length lk; rw [List.length_map] at this; omega
      refine ⟨.int (0 + kind), rfl, .int z, rfl, .ref d, rfl, kind, z, d, ls, by rw [zk]; rfl, hk, by omega, by omega, lin, pfl, by omega, fun x H8 nx s8 mx1 => ?_⟩
      obtain ⟨ka, hd, pr⟩ := id lin
      have rw0 := rws_paired pr nd
      refine ⟨.ref d, rfl, d, ka, rfl, s8 _ _ hd, fun H9 p1 ts1 k9 np1 nt1 ntp1 hp1 pr1 => ⟨1, rfl, -1, rfl, rfl, p1, _, rfl, SqL.of hp1, fun R nR => ?_⟩⟩
      rw [← List.map_reverse]
      generalize hh : upd H9 R _ = G1
      have s1 : Same H9 G1 := by rw [← hh]; exact same_upd nR
      have hR : G1 R = some (.lst (ts1.reverse.map V.ref)) := by rw [← hh]; exact upd_same
      clear hh
      refine ⟨R, ts1.reverse, ka.reverse, rfl, SqL.of hR, (prd_rev pr1).mono fun _ _ h => SqT.of (s1 _ _ h), fun E nE => ?_⟩
      rw [mergeK_nd _ [] (by rw [List.nil_append, List.map_reverse]; exact (List.reverse_perm _).nodup_iff.mpr rw0.nd), List.nil_append]
      generalize hh : upd G1 E _ = G2
      have s2 : Same G1 G2 := by rw [← hh]; exact same_upd nE
      have hE : G2 E = some (.dK ka.reverse) := by rw [← hh]; exact upd_same
      clear hh
      have sB : Same H7 G2 := s8.trans (Same.trans (fun b o e => k9 _ _ e) (s1.trans s2))
      have s8B : Same H8 G2 := Same.trans (fun b o e => k9 _ _ e) (s1.trans s2)
      refine ⟨.int (0 + kind), rfl, .int z, rfl, .ref E, rfl, kind, z, E, ls.reverse, by rw [zk]; rfl, hk, by omega, by omega, ⟨ka.reverse, hE, rowB_same sB (prd_rev pr)⟩, by rw [List.map_reverse]; exact ⟨(List.reverse_perm _).nodup_iff.mpr pfl.nd, fun x hx => pfl.bits x (List.mem_reverse.mp hx), fun x hx => pfl.len x (List.mem_reverse.mp hx)⟩, by rw [List.length_reverse]; omega, fun y G3 ny s3 my => ?_⟩
      have sC := sB.trans s3
      have mx2 := mx1.same (s8B.trans s3)
      have nr : (ls.reverse.map (·.1)).Nodup := by rw [List.map_reverse]; exact (List.reverse_perm _).nodup_iff.mpr nd
      refine ⟨fun σ H' => σ = [some (.ref a0), some (.ref p), some (.int (0 + t)), some (.int z), some (.ref Kk), some (.ref M), some (.int (0 + kind)), some v, some v2, some (.ref d), x10, some (.ref x), some (.ref E), some (.ref y), x14, x15, x16, x17, x18] ∧ H' = G3, ?_, ?_⟩
      · refine ⟨.ref x, rfl, .ref y, rfl, .ref x, .ref y, .same (own_of EQ hk mx2) (own_of EQ hk my), eqX_mm WS hk hk mx2 my nd nr fun b hb => ⟨b, rfl, ?_⟩⟩
        obtain rfl : b = true := hb.mpr ⟨rfl, rfl, (List.reverse_perm ls).symm⟩
        refine ⟨true, true, rfl, rfl, _, rfl, iteF ?_⟩
        refine ⟨.ref x, rfl, .ref y, rfl, .same (own_of EQ hk mx2) (own_of EQ hk my), eqX_mm WS hk hk mx2 my nd nr fun b hb => ⟨b, rfl, ?_⟩⟩
        obtain rfl : b = true := hb.mpr ⟨rfl, rfl, (List.reverse_perm ls).symm⟩
        exact ⟨false, false, rfl, rfl, _, rfl, iteF ⟨rfl, rfl⟩⟩
      rintro σ _ ⟨rfl, rfl⟩
      have inn := inn.same sC
      have dv := dp_same sC dv
      have dv2 := dp_same sC dv2
      have hdC := sC _ _ hd
      have prC := rowB_same sC pr
      clear hE hR pr1 hp1 np1 nt1 ntp1 nE nR ny k9 nx mx1 sC s8B sB s3 s2 s1 s8 my
      refine ⟨.ref d, rfl, v, rfl, v2, rfl, kind, z, d, ls, v, v2, rfl, ⟨ka, hdC, prC⟩, pfl, by omega, z2, dv, dv2, fun R1 ds H10 s10 nR1 hR1 dsl hds => ?_⟩
      have mx2 := mx2.same s10
      have inn := inn.same s10
      have hdC := s10 _ _ hdC
      have prC := rowB_same s10 prC
      refine ⟨R1, rfl, ⟨_, SqL.of hR1⟩, fun D nD => ?_⟩
      refine lc_it (walk_list (K := K) (a := R1) (xs := ds.map V.ref)) (fun i H' => ∃ os : List Addr, H' D = some (.lst (os.map V.ref)) ∧ os.length = i ∧ (∀ o ∈ os, ∃ ls' : BL, MapX K (clB CD CC CW) H' kind o z ls' ∧ (ls'.map (·.1)).Nodup ∧ ¬ ls.Perm ls') ∧ Same H10 H') ⟨[], upd_same, rfl, fun _ h => absurd h List.not_mem_nil, same_upd nD⟩ (fun _ _ _ h => by obtain ⟨_, _, _, _, h⟩ := h; exact SqL.of (h _ _ hR1)) ?_ ?_
      · rintro i v0 _ G4 hi ⟨os, hD, ol, hos, s4⟩ ⟨rfl, hv⟩
        rw [List.getElem?_map] at hv
        obtain ⟨d', hd', rfl⟩ := Option.map_eq_some_iff.mp hv
        have il : i < ds.length := (List.getElem?_eq_some_iff.mp hd').1
        obtain ⟨ls', ⟨kb, hb, pb⟩, pf', fw', np'⟩ := hds d' (List.mem_of_getElem? hd')
        refine ⟨rfl, .int (0 + kind), rfl, .int z, rfl, .ref d', rfl, kind, z, d', ls', by rw [zk]; rfl, hk, by omega, by omega, ⟨kb, s4 _ _ hb, rowB_same s4 pb⟩, pf', by omega, fun x' H11 nx' s11 mx' => ?_⟩
        have hD11 := s11 _ _ hD
        refine ⟨_, hD11, by rw [List.length_map]; exact big_lt (by omega), ?_⟩
        have k5 : ∀ b o, b ≠ D → H11 b = some o → (upd H11 D (.lst (os.map V.ref ++ [.ref x']))) b = some o := fun b o n e => by rw [upd_ne n]; exact e
        refine ⟨os ++ [x'], by rw [upd_same, List.map_append]; rfl, by rw [List.length_append, ol]; rfl, fun o ho => ?_, fun b o e => by rw [upd_ne (ne_of_none e nD)]; exact s11 _ _ (s4 _ _ e)⟩
        rcases List.mem_append.mp ho with ho | ho
        · obtain ⟨l2, h1, h2, h3⟩ := hos o ho
          exact ⟨l2, (h1.same s11).off hD11 k5, h2, h3⟩
        · rw [List.mem_singleton.mp ho]
          exact ⟨ls', mx'.off hD11 k5, pf'.nd, np'⟩
      rintro G4 ⟨os, hD, ol, hos, s4⟩
      rw [List.length_map] at ol
      refine ⟨.ref D, rfl, .ref d, rfl, .ref x, rfl, by show 1 ≤ sizeLine; decide, fun L1 nL1 => ?_⟩
      generalize hh : upd G4 L1 _ = G5
      have s5 : Same G4 G5 := by rw [← hh]; exact same_upd nL1
      have hL1 : G5 L1 = some (.lst [.ref x]) := by rw [← hh]; exact upd_same
      clear hh
      refine ⟨by show 5 ≤ sizeLine; decide, fun L3 nL3 => ?_⟩
      generalize hh : upd G5 L3 _ = G6
      have s6 : Same G5 G6 := by rw [← hh]; exact same_upd nL3
      have hL3 : G6 L3 = some (.lst [.ref d, .non, .str "", .int 5, .ref L1]) := by rw [← hh]; exact upd_same
      clear hh
      refine ⟨D, L3, _, _, rfl, rfl, s6 _ _ (s5 _ _ hD), hL3, big_of (by rw [List.length_map]; show _ + 5 ≤ 1000; omega), fun C nC => ?_⟩
      generalize hh : upd G6 C _ = G7
      have s7 : Same G6 G7 := by rw [← hh]; exact same_upd nC
      have hC : G7 C = some (.lst (os.map V.ref ++ [.ref d, .non, .str "", .int 5, .ref L1])) := by rw [← hh]; exact upd_same
      clear hh
      have s57 := s5.trans (s6.trans s7)
      have s47 := s4.trans s57
      have good : ∀ u ∈ os.map V.ref ++ [.ref d, .non, .str "", .int 5, .ref L1], Oder K (clB CD CC CW) G7 kind z ls u := fun u hu => by
        rcases List.mem_append.mp hu with hu | hu
        · obtain ⟨o, ho, rfl⟩ := List.mem_map.mp hu
          obtain ⟨l2, h1, h2, h3⟩ := hos o ho
          exact .inl ⟨o, z, l2, rfl, h1.same s57, h2, fun h => h3 h.2⟩
        · simp only [List.mem_cons, List.not_mem_nil, or_false] at hu
          rcases hu with rfl | rfl | rfl | rfl | rfl
          · exact .inr ⟨_, .dic (.inl (s47 _ _ hdC))⟩
          · exact .inr ⟨_, .non⟩
          · exact .inr ⟨_, .str _⟩
          · exact .inr ⟨_, .int _⟩
          · exact .inr ⟨_, .lst (s7 _ _ (s6 _ _ hL1))⟩
      have i6 := inn.same (s4.trans (s5.trans s6))
      obtain ⟨Cp, Cc, MC, KC⟩ : C ≠ p ∧ C ≠ c ∧ M ≠ C ∧ Kk ≠ C := ⟨i6.pn.ne_p nC, i6.pn.ne_c nC, ne_of_none i6.hM nC, ne_of_none i6.hK nC⟩
      clear i6
      have mx2 := mx2.same s47
      have inn := inn.same s47
      have hdC := s47 _ _ hdC
      have prC := rowB_same s47 prC
      have gl : (os.map V.ref ++ [V.ref d, V.non, V.str "", V.int 5, V.ref L1]).length ≤ 30 := by rw [List.length_append, List.length_map]; show _ + 5 ≤ 30; omega
      revert hC good gl
      generalize (os.map V.ref ++ [V.ref d, V.non, V.str "", V.int 5, V.ref L1]) = gs
      intro hC good gl
      clear s5 s6 s7 s57 s47 hL1 hL3 nL1 nL3 nC hD nD hos s4 hR1 nR1 hds s10
      refine ⟨fun σ H' => ∃ hs : List V, σ = [some (.ref a0), some (.ref p), some (.int (0 + t)), some (.int z), some (.ref Kk), some (.ref M), some (.int (0 + kind)), some v, some v2, some (.ref d), x10, some (.ref x), some (.ref E), some (.ref y), some (.ref C), x15, x16, x17, x18] ∧ H' C = some (.lst hs) ∧ hs.length ≤ 40 ∧ (∀ u ∈ hs, Oder K (clB CD CC CW) H' kind z ls u) ∧ MapX K (clB CD CC CW) H' kind x z ls ∧ Inn K (clB CD CC CW) H' p c M Kk (500 * t + 1 + 1 + 8 * 5 + 20 * kind + 5) z m xs ms, ?_, ?_⟩
      · refine ⟨.int z, rfl, z, 32, rfl, rfl, _, rfl, ?_⟩
        rw [decide_eq_true (show (z : Int) < 32 by omega)]
        refine iteT ⟨.ref C, rfl, .inl ⟨rfl, _, SqL.of hC⟩, .int (0 + kind), rfl, .int z, rfl, z, 1, rfl, rfl, .ref d, rfl, kind, z + 1, d, ls, by rw [zk]; rfl, hk, by omega, by omega, ⟨ka, hdC, prC⟩, ⟨pfl.nd, pfl.bits, fun u hu => Nat.le_succ_of_le (pfl.len u hu)⟩, by omega, fun x' H11 nx' s11 mx' => ?_⟩
        have hC11 := s11 _ _ hC
        have inn11 := inn.same s11
        have k5 : ∀ b o, b ≠ C → H11 b = some o → (upd H11 C (.lst (gs ++ [.ref x']))) b = some o := fun b o n e => by rw [upd_ne n]; exact e
        refine ⟨C, gs, .ref x', rfl, rfl, hC11, big_lt (by omega), gs ++ [.ref x'], rfl, upd_same, by rw [List.length_append]; show gs.length + 1 ≤ 40; omega, fun u hu => ?_, (mx2.same s11).off hC11 k5, ⟨inn11.pn.off Cp Cc, k5 _ _ MC inn11.hM, k5 _ _ KC inn11.hK, inn11.Mp, inn11.Mc, inn11.Kp, inn11.KM, fun j x hx => (inn11.mx j x hx).off hC11 k5⟩⟩
        rcases List.mem_append.mp hu with hu | hu
        · exact ((good u hu).same s11).put hC11
        · rw [List.mem_singleton.mp hu]
          exact .inl ⟨x', z + 1, ls, rfl, mx'.off hC11 k5, nd, fun h => by omega⟩
      rintro σ H12 ⟨hs, rfl, hC, hl, good, mx2, inn⟩
      refine ⟨.ref C, rfl, C, rfl, ⟨_, SqL.of hC⟩, for_list (K := K) (a := C) (xs := hs) (fun i σ H' => (∃ y15 y16, σ = [some (.ref a0), some (.ref p), some (.int (0 + t)), some (.int z), some (.ref Kk), some (.ref M), some (.int (0 + kind)), some v, some v2, some (.ref d), x10, some (.ref x), some (.ref E), some (.ref y), some (.ref C), y15, y16, x17, x18]) ∧ H' = H12) ⟨⟨_, _, rfl⟩, rfl⟩ (fun _ _ _ _ h => by rw [h.2]; exact SqL.of hC) ?_ ?_⟩
      · rintro i u σ _ hu ⟨⟨y15, y16, rfl⟩, rfl⟩
        have own := own_of EQ hk mx2
        rcases good u (List.mem_of_getElem? hu) with ⟨o, z', ls', rfl, h1, h2, h3⟩ | ⟨T, ot⟩
        · have own' := own_of EQ hk h1
          refine ⟨.ref x, rfl, .ref o, rfl, .ref x, .ref o, .same own own', eqX_mm WS hk hk mx2 h1 nd h2 fun b hb => ⟨b, rfl, ?_⟩⟩
          obtain rfl : b = false := Bool.eq_false_iff.mpr fun h => h3 (hb.mp h).2
          refine ⟨false, false, rfl, rfl, _, rfl, iteF ?_⟩
          refine ⟨.ref o, rfl, .ref x, rfl, .ref o, .ref x, .same own' own, eqX_mm WS hk hk h1 mx2 h2 nd fun b hb => ⟨b, rfl, ?_⟩⟩
          obtain rfl : b = false := Bool.eq_false_iff.mpr fun h => h3 ⟨(hb.mp h).2.1.symm, (hb.mp h).2.2.symm⟩
          refine ⟨false, false, rfl, rfl, _, rfl, iteF ?_⟩
          refine ⟨.ref x, rfl, .ref o, rfl, .same own own', eqX_mm WS hk hk mx2 h1 nd h2 fun b hb => ⟨b, rfl, ?_⟩⟩
          obtain rfl : b = false := Bool.eq_false_iff.mpr fun h => h3 (hb.mp h).2
          exact ⟨true, true, rfl, rfl, _, rfl, iteF ⟨⟨_, _, rfl⟩, rfl⟩⟩
        · refine ⟨.ref x, rfl, u, rfl, .ref x, u, .oth own ot, eqX_mo hk mx2 ot ⟨false, rfl, ?_⟩⟩
          refine ⟨false, false, rfl, rfl, _, rfl, iteF ?_⟩
          refine ⟨u, rfl, .ref x, rfl, .ref x, u, .oth' ot own, eqX_mo hk mx2 ot ⟨false, rfl, ?_⟩⟩
          refine ⟨false, false, rfl, rfl, _, rfl, iteF ?_⟩
          refine ⟨.ref x, rfl, u, rfl, .oth own ot, eqX_mo hk mx2 ot ⟨false, rfl, ?_⟩⟩
          exact ⟨true, true, rfl, rfl, _, rfl, iteF ⟨⟨_, _, rfl⟩, rfl⟩⟩
      rintro σ _ ⟨⟨y15, y16, rfl⟩, rfl⟩
      refine ⟨.ref M, rfl, .inl ⟨rfl, _, SqL.of inn.hM⟩, .int (0 + kind), rfl, .int z, rfl, fun E2 nE2 => ?_⟩
      have sE2 := same_upd (o := .dK []) nE2
      refine ⟨kind, z, E2, [], by rw [zk]; rfl, hk, by omega, by omega, ⟨[], upd_same, .nil⟩, ⟨List.nodup_nil, fun _ h => absurd h List.not_mem_nil, fun _ h => absurd h List.not_mem_nil⟩, by decide, fun x' H13 nx' s13 mx' => ?_⟩
      have inn13 := inn.same (sE2.trans s13)
      have k5 : ∀ b o, b ≠ M → H13 b = some o → (upd H13 M (.lst (ms.map V.ref ++ [.ref x']))) b = some o := fun b o n e => by rw [upd_ne n]; exact e
      refine ⟨M, _, .ref x', rfl, rfl, inn13.hM, by rw [List.length_map]; exact big_lt (by omega), ⟨_, _, _, _, _, _, _, _, _, _, _, _, _, rfl⟩, ms ++ [x'], by rw [List.length_append, ml]; rfl, ⟨(inn13.pn.off inn13.Mp inn13.Mc).mono (by omega), by rw [upd_same, List.map_append]; rfl, k5 _ _ inn13.KM inn13.hK, inn13.Mp, inn13.Mc, inn13.Kp, inn13.KM, fun j x2 hx => ?_⟩⟩
      rcases Nat.lt_or_ge j ms.length with lt | ge
      · rw [List.getElem?_append_left lt] at hx
        exact (inn13.mx j x2 hx).off inn13.hM k5
      · rw [List.getElem?_append_right ge] at hx
        obtain ⟨e1, e2⟩ : j = kind ∧ x2 = x' := by
          cases hj : j - ms.length with
          | zero =>
            rw [hj] at hx
            exact ⟨by omega, (Option.some.inj hx).symm⟩
          | succ n => rw [hj] at hx; cases hx
        rw [e1, e2]
        exact mx'.off inn13.hM k5
    rintro σ H5 ⟨⟨x6, x7, x8, x9, x10, x11, x12, x13, x14, x15, x16, x17, x18, rfl⟩, ms, ml, inn⟩
    refine ⟨3, rfl, by decide, by decide, for_range (n := 3) (fun i σ H' => (∃ y6 y7 y8 y9 y10 y11 y12 y13 y14 y15 y16 y17 y18, σ = [some (.ref a0), some (.ref p), some (.int (0 + t)), some (.int z), some (.ref Kk), some (.ref M), y6, y7, y8, y9, y10, y11, y12, y13, y14, y15, y16, y17, y18]) ∧ Inn K (clB CD CC CW) H' p c M Kk (500 * t + 1 + 1 + 8 * 5 + 20 * 3) z m xs ms) ⟨⟨_, _, _, _, _, _, _, _, _, _, _, _, _, rfl⟩, inn⟩ ?_ ?_⟩
    · rintro kk σ H6 hkk ⟨⟨y6, y7, y8, y9, y10, y11, y12, y13, y14, y15, y16, y17, y18, rfl⟩, inn⟩
      obtain ⟨mk, hmk⟩ : ∃ mk, ms[kk]? = some mk := ⟨_, List.getElem?_eq_getElem (by omega)⟩
      have mxk := inn.mx kk mk hmk
      have zkk : (0 + (kk : Int)) = (kk : Int) := Int.zero_add _
      refine ⟨.ref M, rfl, M, rfl, ⟨_, SqL.of inn.hM⟩, fun D nD => ?_⟩
      refine lc_it (walk_list (K := K) (a := M) (xs := ms.map V.ref)) (fun i H' => H' D = some (.lst (((List.range i).map fun j => decide (j = kk)).map V.bl)) ∧ Same H6 H') ⟨upd_same, same_upd nD⟩ (fun _ _ _ h => SqL.of (h.2 _ _ inn.hM)) ?_ ?_
      · rintro i v0 _ G1 hi ⟨hD, s1⟩ ⟨rfl, hv⟩
        rw [List.getElem?_map] at hv
        obtain ⟨o, ho, rfl⟩ := Option.map_eq_some_iff.mp hv
        have il : i < ms.length := (List.getElem?_eq_some_iff.mp ho).1
        have m1 := mxk.same s1
        have m2 := (inn.mx i o ho).same s1
        have i3 : i < 3 := by omega
        have post : ∀ b, (b = true ↔ kk = i) → ∃ xs0 : List V, G1 D = some (.lst xs0) ∧ xs0.length < sizeLine ∧ ((upd G1 D (.lst (xs0 ++ [.bl b]))) D = some (.lst (((List.range (i + 1)).map fun j => decide (j = kk)).map V.bl)) ∧ Same H6 (upd G1 D (.lst (xs0 ++ [.bl b])))) := fun b hb => by
          refine ⟨_, hD, by rw [List.length_map, List.length_map, List.length_range]; exact big_lt (by omega), ?_, fun b' o' e => by rw [upd_ne (ne_of_none e nD)]; exact s1 _ _ e⟩
          rw [upd_same, List.range_succ, List.map_append, List.map_append]
          have : b = decide (i = kk) := by rw [Bool.eq_iff_iff, hb, decide_eq_true_iff]; exact eq_comm
          rw [this]
          rfl
        refine ⟨rfl, .ref M, rfl, .int (0 + kk), rfl, M, _, _, .ref mk, rfl, rfl, SqL.of (s1 _ _ inn.hM), by rw [zkk]; exact atI_nat (j := kk) (by rw [List.getElem?_map, hmk]; rfl), .ref o, rfl, ?_⟩
        by_cases e : kk = i
        · subst e
          exact ⟨.ref mk, .ref o, .same (own_of EQ hkk m1) (own_of EQ i3 m2), eqX_mm WS hkk i3 m1 m2 List.nodup_nil List.nodup_nil fun b hb => ⟨b, rfl, post b (hb.trans ⟨fun h => h.1, fun h => ⟨h, rfl, .refl _⟩⟩)⟩⟩
        · obtain ⟨ne, sub⟩ := WS kk i hkk i3 e
          by_cases k0 : kk = 0
          · rw [decide_eq_true k0] at sub
            exact ⟨.ref o, .ref mk, .below (own_of EQ hkk m1) (own_of EQ i3 m2) ne sub, eqX_mm WS i3 hkk m2 m1 List.nodup_nil List.nodup_nil fun b hb => ⟨b, rfl, post b (hb.trans ⟨fun h => h.1.symm, fun h => ⟨h.symm, rfl, .refl _⟩⟩)⟩⟩
          · rw [decide_eq_false k0] at sub
            exact ⟨.ref mk, .ref o, .left (own_of EQ hkk m1) (own_of EQ i3 m2) ne sub, eqX_mm WS hkk i3 m1 m2 List.nodup_nil List.nodup_nil fun b hb => ⟨b, rfl, post b (hb.trans ⟨fun h => h.1, fun h => ⟨h, rfl, .refl _⟩⟩)⟩⟩
      rintro G1 ⟨hD, s1⟩
      rw [List.length_map, ml] at hD
      refine ⟨3, rfl, by decide, by decide, fun D2 nD2 => lc_range (n := 3) (fun i H' => H' D2 = some (.lst (((List.range i).map fun j => decide (j = kk)).map V.bl)) ∧ Same G1 H') ?_ ?_ ?_⟩
      · exact ⟨upd_same, same_upd nD2⟩
      · rintro j G2 hj ⟨hD2, s2⟩
        refine ⟨rfl, .int (0 + j), rfl, .int (0 + kk), rfl, rfl, _, hD2, by rw [List.length_map, List.length_map, List.length_range]; exact big_lt (by omega), ?_, fun b' o' e => by rw [upd_ne (ne_of_none e nD2)]; exact s2 _ _ e⟩
        rw [upd_same, List.range_succ, List.map_append, List.map_append]
        have : decide (V.int (0 + (j : Int)) = V.int (0 + (kk : Int))) = decide (j = kk) := decide_eq_decide.mpr ⟨fun h => by have := V.int.inj h; omega, fun h => by rw [h]⟩
        rw [this]
        rfl
      · rintro G2 ⟨hD2, s2⟩
        obtain ⟨sh, ev⟩ := list_bl hkk
        refine ⟨_, _, .lst (SqL.of (s2 _ _ hD)) (dpA_bl _), .lst (SqL.of hD2) (dpA_bl _), sh, sh, _, rfl, ?_⟩
        rw [ev]
        exact iteF ⟨⟨_, _, _, _, _, _, _, _, _, _, _, _, _, rfl⟩, inn.same (s1.trans s2)⟩
    rintro σ H6 ⟨⟨y6, y7, y8, y9, y10, y11, y12, y13, y14, y15, y16, y17, y18, rfl⟩, inn⟩
    exact ⟨⟨_, _, _, _, _, _, _, _, _, _, _, _, _, _, _, _, _, rfl⟩, m, inn.pn.mono (by omega)⟩
end
abbrev sLaw : Stmt := sL
theorem all_mk {l : PySem.W.OpenLaw} {w : World} {K : PySem.W.Frag} {h : Heap} {mg : Str → Option Value} {fa fP fN fDr fB fX fH fI fWo fV fMm fOt fL fK fU fKN fWK fEq fG CD CC CW fT cdaT ccT fWT cdaWT ccWT pG : Addr} (X : K.In h) (G : h.Ns mainGlobals mg) (hfa : mg "law" = some (.ref fa))
    {odP anP odN anN odDr anDr odB anB odX anX odH anH odI anI odWo anWo odV anV odMm anMm odOt anOt odL anL odK anK odU anU odKN anKN odWK anWK odEq anEq odG anG : Option Addr} {slP slN slDr slB slX slH slI slWo slV slMm slOt slL slK slU slKN slWK slEq slG : Array (Option Value)} {ocP dcP pmP cdP ctP kVP ocN dcN pmN cdN ctN kVN ocDr dcDr pmDr cdDr ctDr kVDr ocB dcB pmB cdB ctB kVB ocX dcX pmX cdX ctX kVX ocH dcH pmH cdH ctH kVH ocI dcI pmI cdI ctI kVI ocWo dcWo pmWo cdWo ctWo kVWo ocV dcV pmV cdV ctV kVV ocMm dcMm pmMm cdMm ctMm kVMm ocOt dcOt pmOt cdOt ctOt kVOt ocL dcL pmL cdL ctL kVL ocK dcK pmK cdK ctK kVK ocU dcU pmU cdU ctU kVU ocKN dcKN pmKN cdKN ctKN kVKN ocWK dcWK pmWK cdWK ctWK kVWK ocEq dcEq pmEq cdEq ctEq kVEq ocG dcG pmG cdG ctG kVG : Value} {tkZ tkE tkO : Tok}
    {ocT kVT dcT pmT ctT ckT lkT : Value} {odT anT cddT ldT : Option Addr} {slT csT lsT : Array (Option Value)} {vsT : Array Value} {fiT : Str} {tfT : Tok}
    {ocWT kVWT dcWT pmWT ctWT ckWT lkWT : Value} {odWT anWT cddWT ldWT : Option Addr} {slWT csWT lsWT : Array (Option Value)} {vsWT : Array Value} {fiWT : Str} {tfWT : Tok}
    {rsG : List Value}
    (aP : PySem.W.nsIn K mainGlobals "_law_pen" = some (some (.ref fP)))
    (lP : K.lookup fP = some ⟨ocP, odP, .func (PySem.W.fnOf "_law_pen" "_law_pen" (defArgs sP) (defBody sP) (defScope sP) .none kVP dcP pmP anP cdP ctP), slP⟩)
    (cP : PySem.W.codeIn K cdP "_law_pen" = true) (kP : PySem.W.keepIn K (.ref fP) = true)
    (aN : PySem.W.nsIn K mainGlobals "_law_next" = some (some (.ref fN)))
    (lN : K.lookup fN = some ⟨ocN, odN, .func (PySem.W.fnOf "_law_next" "_law_next" (defArgs sN) (defBody sN) (defScope sN) .none kVN dcN pmN anN cdN ctN), slN⟩)
    (cN : PySem.W.codeIn K cdN "_law_next" = true) (kN : PySem.W.keepIn K (.ref fN) = true)
    (aDr : PySem.W.nsIn K mainGlobals "_law_draw" = some (some (.ref fDr)))
    (lDr : K.lookup fDr = some ⟨ocDr, odDr, .func (PySem.W.fnOf "_law_draw" "_law_draw" (defArgs sDr) (defBody sDr) (defScope sDr) .none kVDr dcDr pmDr anDr cdDr ctDr), slDr⟩)
    (cDr : PySem.W.codeIn K cdDr "_law_draw" = true) (kDr : PySem.W.keepIn K (.ref fDr) = true)
    (aB : PySem.W.nsIn K mainGlobals "_law_bits" = some (some (.ref fB)))
    (lB : K.lookup fB = some ⟨ocB, odB, .func (PySem.W.fnOf "_law_bits" "_law_bits" (defArgs sB) (defBody sB) (defScope sB) .none kVB dcB pmB anB cdB ctB), slB⟩)
    (cB : PySem.W.codeIn K cdB "_law_bits" = true) (kB : PySem.W.keepIn K (.ref fB) = true)
    (aX : PySem.W.nsIn K mainGlobals "_law_prefixes" = some (some (.ref fX)))
    (lX : K.lookup fX = some ⟨ocX, odX, .func (PySem.W.fnOf "_law_prefixes" "_law_prefixes" (defArgs sX) (defBody sX) (defScope sX) .none kVX dcX pmX anX cdX ctX), slX⟩)
    (cX : PySem.W.codeIn K cdX "_law_prefixes" = true) (kX : PySem.W.keepIn K (.ref fX) = true)
    (aH : PySem.W.nsIn K mainGlobals "has_only" = some (some (.ref fH)))
    (lH : K.lookup fH = some ⟨ocH, odH, .func (PySem.W.fnOf "has_only" "has_only" (defArgs sH) (defBody sH) (defScope sH) .none kVH dcH pmH anH cdH ctH), slH⟩)
    (cH : PySem.W.codeIn K cdH "has_only" = true) (kH : PySem.W.keepIn K (.ref fH) = true)
    (aI : PySem.W.nsIn K mainGlobals "is_prefix" = some (some (.ref fI)))
    (lI : K.lookup fI = some ⟨ocI, odI, .func (PySem.W.fnOf "is_prefix" "is_prefix" (defArgs sI) (defBody sI) (defScope sI) .none kVI dcI pmI anI cdI ctI), slI⟩)
    (cI : PySem.W.codeIn K cdI "is_prefix" = true) (kI : PySem.W.keepIn K (.ref fI) = true)
    (aWo : PySem.W.nsIn K mainGlobals "is_whole" = some (some (.ref fWo)))
    (lWo : K.lookup fWo = some ⟨ocWo, odWo, .func (PySem.W.fnOf "is_whole" "is_whole" (defArgs sWo) (defBody sWo) (defScope sWo) .none kVWo dcWo pmWo anWo cdWo ctWo), slWo⟩)
    (cWo : PySem.W.codeIn K cdWo "is_whole" = true) (kWo : PySem.W.keepIn K (.ref fWo) = true)
    (aV : PySem.W.nsIn K mainGlobals "is_width" = some (some (.ref fV)))
    (lV : K.lookup fV = some ⟨ocV, odV, .func (PySem.W.fnOf "is_width" "is_width" (defArgs sV) (defBody sV) (defScope sV) .none kVV dcV pmV anV cdV ctV), slV⟩)
    (cV : PySem.W.codeIn K cdV "is_width" = true) (kV : PySem.W.keepIn K (.ref fV) = true)
    (aMm : PySem.W.nsIn K mainGlobals "_law_made" = some (some (.ref fMm)))
    (lMm : K.lookup fMm = some ⟨ocMm, odMm, .func (PySem.W.fnOf "_law_made" "_law_made" (defArgs sMm) (defBody sMm) (defScope sMm) .none kVMm dcMm pmMm anMm cdMm ctMm), slMm⟩)
    (cMm : PySem.W.codeIn K cdMm "_law_made" = true) (kMm : PySem.W.keepIn K (.ref fMm) = true)
    (aOt : PySem.W.nsIn K mainGlobals "_law_others" = some (some (.ref fOt)))
    (lOt : K.lookup fOt = some ⟨ocOt, odOt, .func (PySem.W.fnOf "_law_others" "_law_others" (defArgs sOt) (defBody sOt) (defScope sOt) .none kVOt dcOt pmOt anOt cdOt ctOt), slOt⟩)
    (cOt : PySem.W.codeIn K cdOt "_law_others" = true) (kOt : PySem.W.keepIn K (.ref fOt) = true)
    (aL : PySem.W.nsIn K mainGlobals "law" = some (some (.ref fL)))
    (lL : K.lookup fL = some ⟨ocL, odL, .func (PySem.W.fnOf "law" "law" (defArgs sL) (defBody sL) (defScope sL) .none kVL dcL pmL anL cdL ctL), slL⟩)
    (cL : PySem.W.codeIn K cdL "law" = true) (kL : PySem.W.keepIn K (.ref fL) = true)
    (aD : PySem.W.nsIn K mainGlobals "PrefixMap" = some (some (.ref CD))) (pgD : PySem.W.plainGet K CD Str.empty = true) (hdD : PySem.W.hasDictIn K CD = true) (poD : PySem.W.plainOver K CD = true) (saD : PySem.W.findIn K (.ref CD) "__setattr__" = some (some (.builtin "object.__setattr__"))) (mkD : PySem.W.makesIn K CD = true) (kcD : PySem.W.keepIn K (.ref CD) = true)
    (nD_width : PySem.W.findIn K (.ref CD) "_width" = some none)
    (nD_rows : PySem.W.findIn K (.ref CD) "_rows" = some none)
    (aC : PySem.W.nsIn K mainGlobals "Table" = some (some (.ref CC))) (pgC : PySem.W.plainGet K CC Str.empty = true) (hdC : PySem.W.hasDictIn K CC = true) (poC : PySem.W.plainOver K CC = true) (saC : PySem.W.findIn K (.ref CC) "__setattr__" = some (some (.builtin "object.__setattr__"))) (mkC : PySem.W.makesIn K CC = true) (kcC : PySem.W.keepIn K (.ref CC) = true)
    (nC_width : PySem.W.findIn K (.ref CC) "_width" = some none)
    (nC_rows : PySem.W.findIn K (.ref CC) "_rows" = some none)
    (aW : PySem.W.nsIn K mainGlobals "Wish" = some (some (.ref CW))) (pgW : PySem.W.plainGet K CW Str.empty = true) (hdW : PySem.W.hasDictIn K CW = true) (poW : PySem.W.plainOver K CW = true) (saW : PySem.W.findIn K (.ref CW) "__setattr__" = some (some (.builtin "object.__setattr__"))) (mkW : PySem.W.makesIn K CW = true) (kcW : PySem.W.keepIn K (.ref CW) = true)
    (nW_width : PySem.W.findIn K (.ref CW) "_width" = some none)
    (nW_rows : PySem.W.findIn K (.ref CW) "_rows" = some none)
    (aK : PySem.W.findIn K (.ref CC) "_checked" = some (some (.ref fK))) (iK : PySem.W.isFn K (.ref fK) = true)
    (lK : K.lookup fK = some ⟨ocK, odK, .func (PySem.W.fnOf "_checked" "Table._checked" (defArgs sK) (defBody sK) (defScope sK) .none kVK dcK pmK anK cdK ctK), slK⟩)
    (cK : PySem.W.codeIn K cdK "Table._checked" = true) (kK : PySem.W.keepIn K (.ref fK) = true)
    (aU : PySem.W.findIn K (.ref CD) "__init__" = some (some (.ref fU))) (iU : PySem.W.isFn K (.ref fU) = true)
    (lU : K.lookup fU = some ⟨ocU, odU, .func (PySem.W.fnOf "__init__" "PrefixMap.__init__" (defArgs sU) (defBody sU) (defScope sU) .none kVU dcU pmU anU cdU ctU), slU⟩)
    (cU : PySem.W.codeIn K cdU "PrefixMap.__init__" = true) (kU : PySem.W.keepIn K (.ref fU) = true)
    (aKN : PySem.W.findIn K (.ref CD) "_checked" = some (some (.ref fKN))) (iKN : PySem.W.isFn K (.ref fKN) = true)
    (lKN : K.lookup fKN = some ⟨ocKN, odKN, .func (PySem.W.fnOf "_checked" "PrefixMap._checked" (defArgs sKN) (defBody sKN) (defScope sKN) .none kVKN dcKN pmKN anKN cdKN ctKN), slKN⟩)
    (cKN : PySem.W.codeIn K cdKN "PrefixMap._checked" = true) (kKN : PySem.W.keepIn K (.ref fKN) = true)
    (aWK : PySem.W.findIn K (.ref CW) "_checked" = some (some (.ref fWK))) (iWK : PySem.W.isFn K (.ref fWK) = true)
    (lWK : K.lookup fWK = some ⟨ocWK, odWK, .func (PySem.W.fnOf "_checked" "Wish._checked" (defArgs sWK) (defBody sWK) (defScope sWK) .none kVWK dcWK pmWK anWK cdWK ctWK), slWK⟩)
    (cWK : PySem.W.codeIn K cdWK "Wish._checked" = true) (kWK : PySem.W.keepIn K (.ref fWK) = true)
    (aEq : PySem.W.findIn K (.ref CD) "__eq__" = some (some (.ref fEq))) (iEq : PySem.W.isFn K (.ref fEq) = true)
    (lEq : K.lookup fEq = some ⟨ocEq, odEq, .func (PySem.W.fnOf "__eq__" "PrefixMap.__eq__" (defArgs sEq) (defBody sEq) (defScope sEq) .none kVEq dcEq pmEq anEq cdEq ctEq), slEq⟩)
    (cEq : PySem.W.codeIn K cdEq "PrefixMap.__eq__" = true) (kEq : PySem.W.keepIn K (.ref fEq) = true)
    (aT : PySem.W.findIn K (.ref CC) "__init__" = some (some (.ref fT))) (iT : PySem.W.isFn K (.ref fT) = true)
    (lT : K.lookup fT = some ⟨ocT, odT, .func (PySem.W.ksFn "__init__" "Table.__init__" (defArgs sT) (defBody sT) (defScope sT) .none kVT dcT pmT anT (.ref cdaT) ctT ccT), slT⟩)
    (cT : PySem.W.codeIn K (.ref cdaT) "Table.__init__" = true) (kT : PySem.W.keepIn K (.ref fT) = true) (qT : K.lookup cdaT = some ⟨ckT, cddT, .fields vsT, csT⟩) (xT : vsT[2]? = some (.str fiT tfT)) (uT : K.lookup ccT = some ⟨lkT, ldT, .cell (some (.ref CC)), lsT⟩)
    (hcT : PySem.W.isClsIn K CC = true) (hsT : PySem.W.mroIn K CC (.ref CC) = some true) (hmT : PySem.W.ks_superIn K CC CC "__init__" = some (some (.ref fU))) (hnT : PySem.W.fnIn K fU = true) (hpT : PySem.W.nsIn K cStatics "thirdparty.any" = some none)
    (hfT : ((l.prog.main.file : Str) == fiT) = true) (htT : (l.prog.main.scope.names.lookup ("super" : Str)).isSome = false)
    (aWT : PySem.W.findIn K (.ref CW) "__init__" = some (some (.ref fWT))) (iWT : PySem.W.isFn K (.ref fWT) = true)
    (lWT : K.lookup fWT = some ⟨ocWT, odWT, .func (PySem.W.ksFn "__init__" "Wish.__init__" (defArgs sWT) (defBody sWT) (defScope sWT) .none kVWT dcWT pmWT anWT (.ref cdaWT) ctWT ccWT), slWT⟩)
    (cWT : PySem.W.codeIn K (.ref cdaWT) "Wish.__init__" = true) (kWT : PySem.W.keepIn K (.ref fWT) = true) (qWT : K.lookup cdaWT = some ⟨ckWT, cddWT, .fields vsWT, csWT⟩) (xWT : vsWT[2]? = some (.str fiWT tfWT)) (uWT : K.lookup ccWT = some ⟨lkWT, ldWT, .cell (some (.ref CW)), lsWT⟩)
    (hcWT : PySem.W.isClsIn K CW = true) (hsWT : PySem.W.mroIn K CW (.ref CW) = some true) (hmWT : PySem.W.ks_superIn K CW CW "__init__" = some (some (.ref fU))) (hnWT : PySem.W.fnIn K fU = true) (hpWT : PySem.W.nsIn K cStatics "thirdparty.any" = some none)
    (hfWT : ((l.prog.main.file : Str) == fiWT) = true) (htWT : (l.prog.main.scope.names.lookup ("super" : Str)).isSome = false)
    (aG : PySem.W.findIn K (.ref CC) "is_target" = some (some (.ref pG))) (tyG : PySem.W.typeIn K (.ref pG) = some (.type "staticmethod")) (ggG : PySem.W.specialIn K (.ref pG) "__get__" = some (some (.builtin "staticmethod.__get__"))) (tkG : PySem.W.takesIn K (.ref pG) = some false) (rcG : PySem.W.recIn K pG "staticmethod" = some (.ref fG :: rsG))
    (lG : K.lookup fG = some ⟨ocG, odG, .func (PySem.W.fnOf "is_target" "Table.is_target" (defArgs sG) (defBody sG) (defScope sG) .none kVG dcG pmG anG cdG ctG), slG⟩)
    (cG : PySem.W.codeIn K cdG "Table.is_target" = true) (kG : PySem.W.keepIn K (.ref fG) = true)
    (rdC : PySem.W.readsIn K CC (.type "type") = true) (sgC : PySem.W.specialIn K (.ref CC) "__getattribute__" = some (some (.builtin "type.__getattribute__")))
    (atG : PySem.W.findCls K (.ref CC) (.type "type") "is_target" = some (.get (.builtin "staticmethod.__get__") (.ref pG) .none (.ref CC)))
    (aUN : PySem.W.findIn K (.ref CD) "__init__" = some (some (.ref pU)))
    (q1 : PySem.W.findIn K (.ref CC) "__class__" = some (some (.builtin "object.__class__")))
    (q2 : PySem.W.specialIn K (.builtin "object.__class__") "__get__" = some (some (.builtin "getset_descriptor.__get__")))
    (q3 : PySem.W.takesIn K (.builtin "object.__class__") = some true)
    (q4 : PySem.W.mroIn K CC (.type "object") = some true)
    (q5 : PySem.W.findIn K (.ref CC) "__ne__" = some (some (.builtin "object.__ne__")))
    (q6 : PySem.W.isClsIn K CD = true)
    (q7 : PySem.W.typeIn K (.ref CD) = some (.type "type"))
    (q8 : PySem.W.mroIn K CC (.ref CD) = some true)
    (r1 : PySem.W.findIn K (.ref CW) "__class__" = some (some (.builtin "object.__class__")))
    (r2 : PySem.W.specialIn K (.builtin "object.__class__") "__get__" = some (some (.builtin "getset_descriptor.__get__")))
    (r3 : PySem.W.takesIn K (.builtin "object.__class__") = some true)
    (r4 : PySem.W.mroIn K CW (.type "object") = some true)
    (r5 : PySem.W.findIn K (.ref CW) "__ne__" = some (some (.builtin "object.__ne__")))
    (r6 : PySem.W.isClsIn K CD = true)
    (r7 : PySem.W.typeIn K (.ref CD) = some (.type "type"))
    (r8 : PySem.W.mroIn K CW (.ref CD) = some true)
    (t1 : PySem.W.findIn K (.ref CD) "__class__" = some (some (.builtin "object.__class__")))
    (t2 : PySem.W.specialIn K (.builtin "object.__class__") "__get__" = some (some (.builtin "getset_descriptor.__get__")))
    (t3 : PySem.W.takesIn K (.builtin "object.__class__") = some true)
    (t4 : PySem.W.mroIn K CD (.type "object") = some true)
    (t5 : PySem.W.findIn K (.ref CD) "__ne__" = some (some (.builtin "object.__ne__")))
    (t6 : PySem.W.isClsIn K CD = true)
    (t7 : PySem.W.typeIn K (.ref CD) = some (.type "type"))
    (t8 : PySem.W.mroIn K CD (.ref CD) = some true)
    (vD0 : PySem.W.mroIn K CD (.type "NoneType") = some false)
    (vD1 : PySem.W.mroIn K CD (.type "int") = some false)
    (vD2 : PySem.W.mroIn K CD (.type "str") = some false)
    (vD3 : PySem.W.mroIn K CD (.type "list") = some false)
    (vD4 : PySem.W.mroIn K CD (.type "dict") = some false)
    (vC0 : PySem.W.mroIn K CC (.type "NoneType") = some false)
    (vC1 : PySem.W.mroIn K CC (.type "int") = some false)
    (vC2 : PySem.W.mroIn K CC (.type "str") = some false)
    (vC3 : PySem.W.mroIn K CC (.type "list") = some false)
    (vC4 : PySem.W.mroIn K CC (.type "dict") = some false)
    (vW0 : PySem.W.mroIn K CW (.type "NoneType") = some false)
    (vW1 : PySem.W.mroIn K CW (.type "int") = some false)
    (vW2 : PySem.W.mroIn K CW (.type "str") = some false)
    (vW3 : PySem.W.mroIn K CW (.type "list") = some false)
    (vW4 : PySem.W.mroIn K CW (.type "dict") = some false)
    (eaC : PySem.W.findIn K (.ref CC) "__eq__" = some (some (.ref fEq)))
    (eaW : PySem.W.findIn K (.ref CW) "__eq__" = some (some (.ref fEq)))
    (uDC : PySem.W.subIn K (.ref CC) (.ref CD) = some true)
    (uDW : PySem.W.subIn K (.ref CW) (.ref CD) = some true)
    (uCD : PySem.W.subIn K (.ref CD) (.ref CC) = some false)
    (uCW : PySem.W.subIn K (.ref CW) (.ref CC) = some false)
    (uWD : PySem.W.subIn K (.ref CD) (.ref CW) = some false)
    (uWC : PySem.W.subIn K (.ref CC) (.ref CW) = some false)
    (uCC : PySem.W.subIn K (.ref CC) (.ref CC) = some true)
    (vZ : PySem.W.nsIn K mainGlobals "WIDEST" = some (some (.int 32 tkZ)))
    (vE : PySem.W.nsIn K mainGlobals "LONGEST_TARGET" = some (some (.int 8 tkE)))
    (vO : PySem.W.nsIn K mainGlobals "LETTERS" = some (some (.str letters tkO)))
    (z0 : PySem.W.nsIn K mainGlobals "list" = some none)
    (z1 : PySem.W.nsIn K mainGlobals "len" = some none)
    (z2 : PySem.W.nsIn K mainGlobals "range" = some none)
    (z3 : PySem.W.nsIn K mainGlobals "min" = some none)
    (z4 : PySem.W.nsIn K mainGlobals "isinstance" = some none)
    (z5 : PySem.W.nsIn K mainGlobals "str" = some none)
    (z6 : PySem.W.nsIn K mainGlobals "int" = some none)
    (z7 : PySem.W.nsIn K mainGlobals "bool" = some none)
    (z8 : PySem.W.nsIn K mainGlobals "dict" = some none)
    (z9 : PySem.W.nsIn K mainGlobals "sorted" = some none)
    (z10 : PySem.W.nsIn K mainGlobals "super" = some none)
    (z11 : PySem.W.nsIn K mainGlobals "tuple" = some none)
    (z12 : PySem.W.nsIn K mainGlobals "set" = some none)
    (z13 : PySem.W.nsIn K mainGlobals "type" = some none)
    : ∃ fd : FuncData, (∀ (s : Shared) (v : Value), BindsTo s fd ⟨[v], []⟩ [("script", v)]) ∧ ∀ base : Heap, K.In base → base.Ns mainGlobals mg → (∃ mm, base.Ns sysModules mm) → FnG l.prog w K mg base 10 fa fd ["script"] (spLaw K) := by
  have e := hfa.symm.trans (PySem.W.mg_of X G aL)
  cases e
  have FP := fun_mk (st := sP) lP cP kP
  have bP := FP.binds (ps := ["script"]) fun _ _ _ _ _ _ us hl => match us, hl with | [_], _ => rfl
  have gP := PySem.W.mg_of X G aP
  have FN := fun_mk (st := sN) lN cN kN
  have bN := FN.binds (ps := ["pen"]) fun _ _ _ _ _ _ us hl => match us, hl with | [_], _ => rfl
  have gN := PySem.W.mg_of X G aN
  have FDr := fun_mk (st := sDr) lDr cDr kDr
  have bDr := FDr.binds (ps := ["pen", "below"]) fun _ _ _ _ _ _ us hl => match us, hl with | [_, _], _ => rfl
  have gDr := PySem.W.mg_of X G aDr
  have FB := fun_mk (st := sB) lB cB kB
  have bB := FB.binds (ps := ["pen", "size"]) fun _ _ _ _ _ _ us hl => match us, hl with | [_, _], _ => rfl
  have gB := PySem.W.mg_of X G aB
  have FX := fun_mk (st := sX) lX cX kX
  have bX := FX.binds (ps := ["pen", "size", "most"]) fun _ _ _ _ _ _ us hl => match us, hl with | [_, _, _], _ => rfl
  have gX := PySem.W.mg_of X G aX
  have FH := fun_mk (st := sH) lH cH kH
  have bH := FH.binds (ps := ["text", "signs"]) fun _ _ _ _ _ _ us hl => match us, hl with | [_, _], _ => rfl
  have gH := PySem.W.mg_of X G aH
  have FI := fun_mk (st := sI) lI cI kI
  have bI := FI.binds (ps := ["thing", "width"]) fun _ _ _ _ _ _ us hl => match us, hl with | [_, _], _ => rfl
  have gI := PySem.W.mg_of X G aI
  have FWo := fun_mk (st := sWo) lWo cWo kWo
  have bWo := FWo.binds (ps := ["thing"]) fun _ _ _ _ _ _ us hl => match us, hl with | [_], _ => rfl
  have gWo := PySem.W.mg_of X G aWo
  have FV := fun_mk (st := sV) lV cV kV
  have bV := FV.binds (ps := ["thing"]) fun _ _ _ _ _ _ us hl => match us, hl with | [_], _ => rfl
  have gV := PySem.W.mg_of X G aV
  have FMm := fun_mk (st := sMm) lMm cMm kMm
  have bMm := FMm.binds (ps := ["kind", "size", "lines"]) fun _ _ _ _ _ _ us hl => match us, hl with | [_, _, _], _ => rfl
  have gMm := PySem.W.mg_of X G aMm
  have FOt := fun_mk (st := sOt) lOt cOt kOt
  have bOt := FOt.binds (ps := ["lines", "value", "other_value"]) fun _ _ _ _ _ _ us hl => match us, hl with | [_, _, _], _ => rfl
  have gOt := PySem.W.mg_of X G aOt
  have FL := fun_mk (st := sL) lL cL kL
  have clD : Cls K CD := ⟨pgD, hdD, poD, saD⟩
  have gD := PySem.W.mg_of X G aD
  have clC : Cls K CC := ⟨pgC, hdC, poC, saC⟩
  have gC := PySem.W.mg_of X G aC
  have clW : Cls K CW := ⟨pgW, hdW, poW, saW⟩
  have gW := PySem.W.mg_of X G aW
  have FK := fun_mk (st := sK) lK cK kK
  have bK := FK.binds (ps := ["self", "value"]) fun _ _ _ _ _ _ us hl => match us, hl with | [_, _], _ => rfl
  have mtK : Meth K CC "_checked" fK := ⟨aK, iK, kK⟩
  have FU := fun_mk (st := sU) lU cU kU
  have bU := FU.binds (ps := ["self", "width", "rows"]) fun _ _ _ _ _ _ us hl => match us, hl with | [_, _, _], _ => rfl
  have MD : Mk K CD fU := ⟨mkD, aU, iU, kcD⟩
  have FKN := fun_mk (st := sKN) lKN cKN kKN
  have bKN := FKN.binds (ps := ["self", "value"]) fun _ _ _ _ _ _ us hl => match us, hl with | [_, _], _ => rfl
  have mtKN : Meth K CD "_checked" fKN := ⟨aKN, iKN, kKN⟩
  have FWK := fun_mk (st := sWK) lWK cWK kWK
  have bWK := FWK.binds (ps := ["self", "value"]) fun _ _ _ _ _ _ us hl => match us, hl with | [_, _], _ => rfl
  have mtWK : Meth K CW "_checked" fWK := ⟨aWK, iWK, kWK⟩
  have FEq := fun_mk (st := sEq) lEq cEq kEq
  have bEq := FEq.binds (ps := ["self", "other"]) fun _ _ _ _ _ _ us hl => match us, hl with | [_, _], _ => rfl
  have mtEq : Meth K CD "__eq__" fEq := ⟨aEq, iEq, kEq⟩
  have FT : FunS K fiT "__init__" "Table.__init__" sT fT CC _ := ⟨⟨_, _, _, _, _, _, _, _, _, _, _, _, _, _, _, _, _, _, rfl, lT, cT, qT, xT, uT⟩, kT⟩
  have bT : L2.Binds K (PySem.W.ksFn "__init__" "Table.__init__" (defArgs sT) (defBody sT) (defScope sT) .none kVT dcT pmT anT (.ref cdaT) ctT ccT) ["self", "width", "rows"] [] := .all fun us hl => match us, hl with | [_, _, _], _ => rfl
  have MC : Mk K CC fT := ⟨mkC, aT, iT, kcC⟩
  have FWT : FunS K fiWT "__init__" "Wish.__init__" sWT fWT CW _ := ⟨⟨_, _, _, _, _, _, _, _, _, _, _, _, _, _, _, _, _, _, rfl, lWT, cWT, qWT, xWT, uWT⟩, kWT⟩
  have bWT : L2.Binds K (PySem.W.ksFn "__init__" "Wish.__init__" (defArgs sWT) (defBody sWT) (defScope sWT) .none kVWT dcWT pmWT anWT (.ref cdaWT) ctWT ccWT) ["self", "width", "rows"] [] := .all fun us hl => match us, hl with | [_, _, _], _ => rfl
  have MW : Mk K CW fWT := ⟨mkW, aWT, iWT, kcW⟩
  have FG := fun_mk (st := sG) lG cG kG
  have bG := FG.binds (ps := ["thing"]) fun _ _ _ _ _ _ us hl => match us, hl with | [_], _ => rfl
  have SG : SMeth K CC "is_target" pG fG := ⟨aG, tyG, ggG, tkG, by decide +kernel, ⟨_, rcG⟩, kG⟩
  have RCC : ClX.CRead K CC (.type "type") := ⟨rdC, sgC⟩
  have csG : CSta K CC (.type "type") "is_target" pG fG := ⟨atG, ⟨_, rcG⟩, kG⟩
  have FUN := FU
  have bUN := bU
  have wZ := PySem.W.mg_of X G vZ
  have wE := PySem.W.mg_of X G vE
  have wO := PySem.W.mg_of X G vO
  have m_list := PySem.W.mg_none_of X G z0
  have m_len := PySem.W.mg_none_of X G z1
  have m_range := PySem.W.mg_none_of X G z2
  have m_min := PySem.W.mg_none_of X G z3
  have m_isinstance := PySem.W.mg_none_of X G z4
  have m_str := PySem.W.mg_none_of X G z5
  have m_int := PySem.W.mg_none_of X G z6
  have m_bool := PySem.W.mg_none_of X G z7
  have m_dict := PySem.W.mg_none_of X G z8
  have m_sorted := PySem.W.mg_none_of X G z9
  have m_super := PySem.W.mg_none_of X G z10
  have m_tuple := PySem.W.mg_none_of X G z11
  have m_set := PySem.W.mg_none_of X G z12
  have m_type := PySem.W.mg_none_of X G z13
  refine ⟨PySem.W.fnOf "law" "law" (defArgs sLaw) (defBody sLaw) (defScope sLaw) .none kVL dcL pmL anL cdL ctL, fun s v => .of_eq rfl, fun base _ _ sys => ?_⟩
  have OCC : ObjC K CC := ⟨q1, q2, q3, q4, q5⟩
  have OCW : ObjC K CW := ⟨r1, r2, r3, r4, r5⟩
  have OCD : ObjC K CD := ⟨t1, t2, t3, t4, t5⟩
  have noD : ∀ T ∈ ["NoneType", "int", "str", "list", "dict"], PySem.W.mroIn K CD (.type T) = some false := fun T h => by
    simp only [List.mem_cons, List.not_mem_nil, or_false] at h
    rcases h with rfl | rfl | rfl | rfl | rfl
    · exact vD0
    · exact vD1
    · exact vD2
    · exact vD3
    · exact vD4
  have noC : ∀ T ∈ ["NoneType", "int", "str", "list", "dict"], PySem.W.mroIn K CC (.type T) = some false := fun T h => by
    simp only [List.mem_cons, List.not_mem_nil, or_false] at h
    rcases h with rfl | rfl | rfl | rfl | rfl
    · exact vC0
    · exact vC1
    · exact vC2
    · exact vC3
    · exact vC4
  have noW : ∀ T ∈ ["NoneType", "int", "str", "list", "dict"], PySem.W.mroIn K CW (.type T) = some false := fun T h => by
    simp only [List.mem_cons, List.not_mem_nil, or_false] at h
    rcases h with rfl | rfl | rfl | rfl | rfl
    · exact vW0
    · exact vW1
    · exact vW2
    · exact vW3
    · exact vW4
  have EQ : ∀ i, i < 3 → ClsX K fEq CD (clB CD CC CW i) := fun i hi => by
    obtain rfl | rfl | rfl : i = 0 ∨ i = 1 ∨ i = 2 := by omega
    · exact ⟨⟨clD, nD_width, nD_rows⟩, kit_own t6 t7 t8, mkD, ⟨aEq, noD, OCD⟩⟩
    · exact ⟨⟨clC, nC_width, nC_rows⟩, kit_own q6 q7 q8, mkC, ⟨eaC, noC, OCC⟩⟩
    · exact ⟨⟨clW, nW_width, nW_rows⟩, kit_own r6 r7 r8, mkW, ⟨eaW, noW, OCW⟩⟩
  have allX : ∀ C, clsK CD CC CW C → ClsX K fEq CD C := fun C ⟨i, hi, e⟩ => by rw [e]; exact EQ i hi
  have nDC : CD ≠ CC := fun h => by rw [h] at uCD; rw [uCC] at uCD; cases uCD
  have nDW : CD ≠ CW := fun h => by rw [h] at uDC; rw [uWC] at uDC; cases uDC
  have nCW : CC ≠ CW := fun h => by rw [← h] at uCW; rw [uCC] at uCW; cases uCW
  have WS : ∀ i j, i < 3 → j < 3 → i ≠ j → clB CD CC CW i ≠ clB CD CC CW j ∧ PySem.W.subIn K (.ref (clB CD CC CW j)) (.ref (clB CD CC CW i)) = some (decide (i = 0)) := fun i j hi hj h => by
    obtain rfl | rfl | rfl : i = 0 ∨ i = 1 ∨ i = 2 := by omega
    · obtain rfl | rfl : j = 1 ∨ j = 2 := by omega
      · exact ⟨nDC, uDC⟩
      · exact ⟨nDW, uDW⟩
    · obtain rfl | rfl : j = 0 ∨ j = 2 := by omega
      · exact ⟨nDC.symm, uCD⟩
      · exact ⟨nCW, uCW⟩
    · obtain rfl | rfl : j = 0 ∨ j = 1 := by omega
      · exact ⟨nDW.symm, uWD⟩
      · exact ⟨nCW.symm, uWC⟩
  have GP := (ok_pen (P := l.prog) (w := w) (base := base) (mg := mg) (k := 0) FP m_list)
  have GDr := (ok_draw (P := l.prog) (w := w) (base := base) (mg := mg) (k := 0) FDr FN bN gN m_len)
  have GB := (ok_bits (P := l.prog) (w := w) (base := base) (mg := mg) FB GDr FDr bDr gDr m_range)
  have GX := (ok_prefixes (P := l.prog) (w := w) (base := base) (mg := mg) FX (GDr.mono (by decide)) FDr bDr gDr GB FB bB gB m_range m_len m_min)
  have GI := (ok_pfx (P := l.prog) (w := w) (base := base) (mg := mg) (k := 0) FI FH bH gH m_isinstance m_str m_len)
  have GWo := (ok_whole (P := l.prog) (w := w) (base := base) (mg := mg) (k := 0) FWo m_isinstance m_int m_bool)
  have GV := (ok_width (P := l.prog) (w := w) (base := base) (mg := mg) FV GWo FWo bWo gWo wZ)
  have GG := (ok_tgt (P := l.prog) (w := w) (base := base) (mg := mg) (k := 0) FG FH bH gH m_isinstance m_str m_len wE wO)
  have GK := (ok_tchk (P := l.prog) (w := w) (base := base) (mg := mg) (C := CC) FK (⟨clC, nC_width, nC_rows⟩ : ClsF K CC) SG GG bG)
  have GU := (ok_init (P := l.prog) (w := w) (base := base) (mg := mg) FU (⟨clC, nC_width, nC_rows⟩ : ClsF K CC) (GV.mono (by decide : _ ≤ 3)) FV bV gV (GI.mono (by decide : _ ≤ 3)) FI bI gI GK mtK bK m_isinstance m_dict m_sorted)
  have GT := (ok_tinit (P := l.prog) (w := w) (base := base) (mg := mg) FT GU bU hnT (beq_iff_eq.mp iU) (Option.isSome_iff_exists.mp hcT) hsT hmT hpT m_super hfT htT)
  have GKN := (ok_chk (P := l.prog) (w := w) (base := base) (mg := mg) (C := CD) FKN (GWo.mono (by decide : _ ≤ 2)) FWo bWo gWo)
  have GUN := (ok_init (P := l.prog) (w := w) (base := base) (mg := mg) FUN (⟨clD, nD_width, nD_rows⟩ : ClsF K CD) (GV.mono (by decide : _ ≤ 3)) FV bV gV (GI.mono (by decide : _ ≤ 3)) FI bI gI GKN mtKN bKN m_isinstance m_dict m_sorted)
  have GWK := ok_WK (P := l.prog) (w := w) (base := base) (mg := mg) (k := 2) FWK m_tuple m_list m_isinstance gC RCC (GG.mono (by decide)) csG bG m_set m_len m_sorted
  have FWU := FU
  have bWU := bU
  have GWU := ok_WU (P := l.prog) (w := w) (base := base) (mg := mg) (k := 3) FWU (GV.mono (by decide)) FV bV gV m_dict m_isinstance (GI.mono (by decide)) FI bI gI clW nW_width m_sorted (GWK.mono (by decide)) mtWK bWK nW_rows
  have GWT := (ok_wtinit (P := l.prog) (w := w) (base := base) (mg := mg) FWT GWU bU hnWT (beq_iff_eq.mp iU) (Option.isSome_iff_exists.mp hcWT) hsWT hmWT hpWT m_super hfWT htWT)
  have GMm := ok_Mm (P := l.prog) (w := w) (base := base) (mg := mg) (k := 6) FMm (GUN.mono (by decide)) MD gD bUN (GT.mono (by decide)) MC gC bT (GWT.mono (by decide)) MW gW bWT
  have GOt := ok_Ot (P := l.prog) (w := w) (base := base) (mg := mg) (k := 0) FOt m_list m_dict
  have GEq := (ok_eqX (P := l.prog) (w := w) (base := base) (mg := mg) (k := 0) FEq allX m_isinstance m_type gD q6 q7)
  exact (ok_L (P := l.prog) (w := w) (base := base) (mg := mg) (k := 8) FL EQ WS (GP.mono (by decide)) FP bP gP m_range (GDr.mono (by decide)) FDr bDr gDr (GX.mono (by decide)) FX bX gX m_dict (GMm.mono (by decide)) FMm bMm gMm m_list (GEq.mono (by decide)) OCD aEq iEq bEq (GOt.mono (by decide)) FOt bOt gOt).mono (by decide)
end Kt
open PySem PySem.W PyProof.Rows
set_option maxRecDepth 100000 in
set_option maxHeartbeats 0 in
theorem PySem.Challenge.cw_keptroutes_k06_equal_maps_holds : PySem.Challenge.rw_keptroutes_k06_equal_maps.Holds := by
  refine Kt.head0 ?_
  k_fill
  refine Kt.walkG (l := PySem.Challenge.rw_keptroutes_k06_equal_maps) (n := 63) (k := 10) (x := "script") (sp := fun w => Kt.spLaw _) rfl (by decide) rfl ?him ⟨rfl, by decide, by decide⟩ (fun w h Y => PySem.W.kIn_of Y) ?F (fun _ _ a ns hl hS => ⟨a, ns, rfl, hS, hl, fun _ => rfl⟩)
  case him => rfl
  case F =>
    intro w mg fa h KX G hmg
    refine' Kt.all_mk KX G hmg ?aP ?lP ?cP ?kP ?aN ?lN ?cN ?kN ?aDr ?lDr ?cDr ?kDr ?aB ?lB ?cB ?kB ?aX ?lX ?cX ?kX ?aH ?lH ?cH ?kH ?aI ?lI ?cI ?kI ?aWo ?lWo ?cWo ?kWo ?aV ?lV ?cV ?kV ?aMm ?lMm ?cMm ?kMm ?aOt ?lOt ?cOt ?kOt ?aL ?lL ?cL ?kL ?aD ?pgD ?hdD ?poD ?saD ?mkD ?kcD ?nD_width ?nD_rows ?aC ?pgC ?hdC ?poC ?saC ?mkC ?kcC ?nC_width ?nC_rows ?aW ?pgW ?hdW ?poW ?saW ?mkW ?kcW ?nW_width ?nW_rows ?aK ?iK ?lK ?cK ?kK ?aU ?iU ?lU ?cU ?kU ?aKN ?iKN ?lKN ?cKN ?kKN ?aWK ?iWK ?lWK ?cWK ?kWK ?aEq ?iEq ?lEq ?cEq ?kEq ?aT ?iT ?lT ?cT ?kT ?qT ?xT ?uT ?hcT ?hsT ?hmT ?hnT ?hpT ?hfT ?htT ?aWT ?iWT ?lWT ?cWT ?kWT ?qWT ?xWT ?uWT ?hcWT ?hsWT ?hmWT ?hnWT ?hpWT ?hfWT ?htWT ?aG ?tyG ?ggG ?tkG ?rcG ?lG ?cG ?kG ?rdC ?sgC ?atG ?aUN ?q1 ?q2 ?q3 ?q4 ?q5 ?q6 ?q7 ?q8 ?r1 ?r2 ?r3 ?r4 ?r5 ?r6 ?r7 ?r8 ?t1 ?t2 ?t3 ?t4 ?t5 ?t6 ?t7 ?t8 ?vD0 ?vD1 ?vD2 ?vD3 ?vD4 ?vC0 ?vC1 ?vC2 ?vC3 ?vC4 ?vW0 ?vW1 ?vW2 ?vW3 ?vW4 ?eaC ?eaW ?uDC ?uDW ?uCD ?uCW ?uWD ?uWC ?uCC ?vZ ?vE ?vO ?z0 ?z1 ?z2 ?z3 ?z4 ?z5 ?z6 ?z7 ?z8 ?z9 ?z10 ?z11 ?z12 ?z13
    (case aP => k_is); (case lP => k_is); (case cP => k_is); (case kP => k_is); (case aN => k_is); (case lN => k_is); (case cN => k_is); (case kN => k_is); (case aDr => k_is); (case lDr => k_is); (case cDr => k_is); (case kDr => k_is); (case aB => k_is); (case lB => k_is); (case cB => k_is); (case kB => k_is); (case aX => k_is); (case lX => k_is); (case cX => k_is); (case kX => k_is); (case aH => k_is); (case lH => k_is); (case cH => k_is); (case kH => k_is); (case aI => k_is); (case lI => k_is); (case cI => k_is); (case kI => k_is); (case aWo => k_is); (case lWo => k_is); (case cWo => k_is); (case kWo => k_is); (case aV => k_is); (case lV => k_is); (case cV => k_is); (case kV => k_is); (case aMm => k_is); (case lMm => k_is); (case cMm => k_is); (case kMm => k_is); (case aOt => k_is); (case lOt => k_is); (case cOt => k_is); (case kOt => k_is); (case aL => k_is); (case lL => k_is); (case cL => k_is); (case kL => k_is); (case aD => k_is); (case pgD => k_is); (case hdD => k_is); (case poD => k_is); (case saD => k_is); (case mkD => k_is); (case kcD => k_is); (case nD_width => k_is); (case nD_rows => k_is); (case aC => k_is); (case pgC => k_is); (case hdC => k_is); (case poC => k_is); (case saC => k_is); (case mkC => k_is); (case kcC => k_is); (case nC_width => k_is); (case nC_rows => k_is); (case aW => k_is); (case pgW => k_is); (case hdW => k_is); (case poW => k_is); (case saW => k_is); (case mkW => k_is); (case kcW => k_is); (case nW_width => k_is); (case nW_rows => k_is); (case aK => k_is); (case iK => k_is); (case lK => k_is); (case cK => k_is); (case kK => k_is); (case aU => k_is); (case iU => k_is); (case lU => k_is); (case cU => k_is); (case kU => k_is); (case aKN => k_is); (case iKN => k_is); (case lKN => k_is); (case cKN => k_is); (case kKN => k_is); (case aWK => k_is); (case iWK => k_is); (case lWK => k_is); (case cWK => k_is); (case kWK => k_is); (case aEq => k_is); (case iEq => k_is); (case lEq => k_is); (case cEq => k_is); (case kEq => k_is); (case aT => k_is); (case iT => k_is); (case lT => k_is); (case cT => k_is); (case kT => k_is); (case qT => k_is); (case xT => first | k_is | rfl | decide +kernel); (case uT => k_is); (case hcT => k_is); (case hsT => k_is); (case hmT => ks_is); (case hnT => k_is); (case hpT => k_is); (case hfT => first | k_is | rfl | decide +kernel); (case htT => first | k_is | rfl | decide +kernel); (case aWT => k_is); (case iWT => k_is); (case lWT => k_is); (case cWT => k_is); (case kWT => k_is); (case qWT => k_is); (case xWT => first | k_is | rfl | decide +kernel); (case uWT => k_is); (case hcWT => k_is); (case hsWT => k_is); (case hmWT => ks_is); (case hnWT => k_is); (case hpWT => k_is); (case hfWT => first | k_is | rfl | decide +kernel); (case htWT => first | k_is | rfl | decide +kernel); (case aG => k_is); (case tyG => k_is); (case ggG => k_is); (case tkG => k_is); (case rcG => k_is); (case lG => k_is); (case cG => k_is); (case kG => k_is); (case rdC => k_is); (case sgC => k_is); (case atG => k_is); (case aUN => k_is); (case q1 => k_is); (case q2 => k_is); (case q3 => k_is); (case q4 => k_is); (case q5 => k_is); (case q6 => k_is); (case q7 => k_is); (case q8 => k_is); (case r1 => k_is); (case r2 => k_is); (case r3 => k_is); (case r4 => k_is); (case r5 => k_is); (case r6 => k_is); (case r7 => k_is); (case r8 => k_is); (case t1 => k_is); (case t2 => k_is); (case t3 => k_is); (case t4 => k_is); (case t5 => k_is); (case t6 => k_is); (case t7 => k_is); (case t8 => k_is); (case vD0 => k_is); (case vD1 => k_is); (case vD2 => k_is); (case vD3 => k_is); (case vD4 => k_is); (case vC0 => k_is); (case vC1 => k_is); (case vC2 => k_is); (case vC3 => k_is); (case vC4 => k_is); (case vW0 => k_is); (case vW1 => k_is); (case vW2 => k_is); (case vW3 => k_is); (case vW4 => k_is); (case eaC => k_is); (case eaW => k_is); (case uDC => k_is); (case uDW => k_is); (case uCD => k_is); (case uCW => k_is); (case uWD => k_is); (case uWC => k_is); (case uCC => k_is); (case vZ => k_is); (case vE => k_is); (case vO => k_is); (case z0 => k_is); (case z1 => k_is); (case z2 => k_is); (case z3 => k_is); (case z4 => k_is); (case z5 => k_is); (case z6 => k_is); (case z7 => k_is); (case z8 => k_is); (case z9 => k_is); (case z10 => k_is); (case z11 => k_is); (case z12 => k_is); (case z13 => k_is)
